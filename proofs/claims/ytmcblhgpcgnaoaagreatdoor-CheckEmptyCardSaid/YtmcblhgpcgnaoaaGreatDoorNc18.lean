/-
  Proved here: what the landed check's walker says of all nodes, and of the flags, of an empty volume. The conditions stand at each theorem. Proved here: what the landed image reads of a node of the new format without blocks. The conditions stand at each theorem. Proved here: what the landed check finds of an empty volume's blocks. The conditions stand at each theorem. Proved here: what the landed Check and Used answer of an empty volume's blocks. The conditions stand at each theorem. Proved here: lists of blocks of a call's own whose places are set anew. The conditions stand at each theorem. Proved here: what the document's own Blocks of one run, Map of flags and Mark of one run answer. The conditions stand at each theorem.
-/
import Derived.Test.YtmcblhgpcgnaoaaGreatDoorNc17
import Derived.Test.YtmcblhgpcgnaoaaGreatDoorNc6
import Derived.Test.YtmcblhgpcgnaoaaGreatDoorNc8
import Derived.Test.YtmcblhgpcgnaoaaGreatDoorNc13
import Derived.Test.YtmcblhgpcgnaoaaGreatDoorNc9
import Derived.Test.YtmcblhgpcgnaoaaGreatDoorNc1
namespace Go.Proofs.YtmcblhgpcgnaoaaGreatDoor
open Go.RowKit
set_option linter.unusedVariables false
set_option linter.unusedSimpArgs false

theorem idxTold (L : List Value) (i : Nat) (hi : i < 32) (cs : List Value) (hc : (L.drop (i * 14)).take 14 = cs) : ∀ w, (Instr.index 146 (.agg L.toArray) (.int .i64 (i : Int))).run Tryz.prog w = .ok (.agg cs.toArray) w := by
  intro w
  have z := Tryz.sizeOf145
  have ag := Tryz.isAgg145
  have h3 : (i : Int) < 32 := by omega
  unfold Instr.index part
  simp [asIntOf, run_underlying Tryz.underlying146, z, ag, h3, Result.andThen]
  rw [if_pos hi, hc]
theorem idxUse (L : List Value) (i : Nat) (hi : i < 480) (v : Value) (hv : L[i]? = some v) : ∀ w, (Instr.index 148 (.agg L.toArray) (.int .i64 (i : Int))).run Tryz.prog w = .ok v w := by
  intro w
  have z := Tryz.sizeOf3
  have ag := Tryz.isAgg3
  have h3 : (i : Int) < 480 := by omega
  unfold Instr.index part
  simp [asIntOf, run_underlying Tryz.underlying148, z, ag, h3, hi, hv, Result.andThen]
/-- All that a walker keeps of nodes, in one row. -/
def allT (T : Nat → List Value) : Nat → List Value
  | 0 => []
  | n + 1 => allT T n ++ T n
theorem allT_length {T : Nat → List Value} (h : ∀ k, k < 32 → (T k).length = 14) : ∀ n, n ≤ 32 → (allT T n).length = n * 14
  | 0, _ => rfl
  | n + 1, hn => by
    show (allT T n ++ T n).length = _
    rw [List.length_append, allT_length h n (by omega), h n (by omega)]
    omega
theorem allT_get {T : Nat → List Value} (h : ∀ k, k < 32 → (T k).length = 14) : ∀ n, n ≤ 32 → ∀ k, k < n → ∀ j, j < 14 → (allT T n)[k * 14 + j]? = (T k)[j]?
  | n + 1, hn, k, hk, j, hj => by
    have hl := allT_length h n (by omega)
    show (allT T n ++ T n)[k * 14 + j]? = _
    by_cases e : k = n
    · subst e
      rw [List.getElem?_append_right (by omega), hl, show k * 14 + j - k * 14 = j by omega]
    · rw [List.getElem?_append_left (by omega)]
      exact allT_get h n (by omega) k (by omega) j hj
theorem WAt.nodes {w : World} {p : Nat} {a : Addr} {T : Nat → List Value} {nm us : Nat → Int} (h : WAt w p a T nm us) : w.rangeAt p 1 (allT T 32) := fun j v hj => by
  have hlt := (List.getElem?_eq_some_iff.1 hj).1
  rw [allT_length h.lT 32 (by decide)] at hlt
  obtain ⟨k, r, hr, rfl⟩ : ∃ k r, r < 14 ∧ j = k * 14 + r := ⟨j / 14, j % 14, by omega, by omega⟩
  rw [allT_get h.lT 32 (by decide) k (by omega) r hr] at hj
  have := h.cT k (by omega) r v hj
  rwa [show 1 + (k * 14 + r) = 1 + k * 14 + r by omega]
theorem allT_cut {T : Nat → List Value} (h : ∀ k, k < 32 → (T k).length = 14) (k : Nat) (hk : k < 32) : ((allT T 32).drop (k * 14)).take 14 = T k := by
  refine List.ext_getElem? (fun j => ?_)
  have hl := h k hk
  by_cases hj : j < 14
  · rw [List.getElem?_take, if_pos hj, List.getElem?_drop, allT_get h 32 (by decide) k hk j hj]
  · rw [List.getElem?_take, if_neg hj, List.getElem?_eq_none (by omega)]
theorem WAt.uses {w : World} {p : Nat} {a : Addr} {T : Nat → List Value} {nm : Nat → Int} (h : WAt w p a T nm (fun _ => 0)) : w.rangeAt p 481 (List.replicate 480 (.int .i64 0)) := fun j v hj => by
  rw [List.getElem?_replicate] at hj
  split at hj
  · cases hj
    exact h.cU j (by assumption)
  · cases hj

set_option maxRecDepth 100000 in
set_option maxHeartbeats 3200000 in
theorem snodes_empty {w : World} {p : Nat} {a : Addr} {F : Nat → Prop} {I : Img} {T : Nat → List Value} {us : Nat → Int} {n : Nat} {f : Int} (hW : WAt w p a T (fun i => if i = 0 then 1 else 0) us) (hT : ∀ k, k < 32 → ToldIs (nodeAt I.bl k) (T k)) (hI : ImgI w a F I) (hE : EmptyI I.bl n f) :
    Calls Tryz.prog 156 #[.pointer (some ⟨p, 0, none⟩)] w fun e w' => e = .returned (.bool true) ∧ Below w.heap.size w w' := by
  have HN := Lib.hid hW.nodes
  have HNL : Hid ((Tryz.prog.info? 146).map (·.size) = some (allT T 32).length) := Lib.hid (by rw [allT_length hW.lT 32 (by decide)]; kernel_rfl)
  have HL := Lib.hid hW.lT
  have HW := Lib.hid hW
  have HT := Lib.hid hT
  have HI := Lib.hid hI
  have HE := Lib.hid hE
  clear hW hT hI hE
  go_enter Tryz.func156, Tryz.ntmps156
  go_wp2_with (refine wpList_load_mid rfl 146 (.tmp 7) rfl p 1 rfl (allT T 32) _ HN.out Tryz.underlying146 rfl HNL.out ?_)
  obtain ⟨L, hL⟩ : ∃ L, allT T 32 = L := ⟨_, rfl⟩
  have HLL := Lib.hid hL
  try rw [hL]
  clear hL HN HNL
  have HJ0 : Hid (Below w.heap.size w w) := Lib.hid (Below.refl _ _)
  go_loopw [9] (fun kv wr => ∃ i : Nat, i ≤ 32 ∧ kv = .int .i64 i ∧ Hid (Below w.heap.size w wr)) (fun kv _ => 32 - (intOf kv).toNat)
  case atStart => exact ⟨0, Nat.zero_le _, rfl, HJ0⟩
  case round =>
    obtain ⟨i, hi, rfl, HJ⟩ := hrel
    clear HJ0
    by_cases hlt : i < 32
    · have i2 : (i : Int) < 32 := by omega
      obtain ⟨xo, xm, xc, po, pc, oo, oc, ht⟩ := HT.out i hlt
      rw [HE.out.nod i hlt] at ht
      by_cases h0 : i = 0
      · rw [if_pos h0] at ht
        have HX := Lib.hid (idxTold L i hlt (toldC (rootN f) (.slice xo xm xc) (.slice po 0 pc) (.slice oo 0 oc)) (by rw [← HLL.out, allT_cut HL.out i hlt, ht]))
        have HNM := Lib.hid h0
        clear ht h0
        unfold toldC rootN noNode at HX
        dsimp only at HX
        go_wp2_with (first
          | (refine wp_index9 rfl (.tmp 8) (.tmp 9) 146 rfl _ HX.out ?_)
          | (refine wp_store_new rfl 145 (.tmp 4) (.tmp 12) rfl wr.heap.size #[.int .i64 2, .int .i64 f, .int .i64 1, .int .i64 0, .int .i64 0, .int .i64 0, .int .i64 0, .int .i64 0, .int .i64 0, .int .i64 0, .slice xo xm xc, .int .i64 0, .slice po 0 pc, .slice oo 0 oc] rfl rfl (there_new0 _ _ _ rfl) (by kernel_rfl) (one_told ..) rfl ?_; intro w3 hr3 hw3; have HB3 : Hid (Below wr.heap.size wr w3) := Lib.hid (hw3 _ _ (Nat.le_refl _) ((Below.refl _ _).alloc (Nat.le_refl _) _)); have HR3 := Lib.hid hr3; clear hw3 hr3)
          | (refine wpList_load_mid rfl 145 (.tmp 4) rfl wr.heap.size 0 rfl _ _ HR3.out Tryz.underlying145 rfl (by kernel_rfl) ?_)
          | (go_at_call 214; refine (snode_root hlt ((HW.out.later HJ.out).later HB3.out) (if_pos HNM.out) ((HI.out.later HJ.out).later HB3.out) HE.out _ _ _ _ _ _ _ _ _ _ _).mono ?_; rintro e w4 ⟨rfl, hb4⟩; have HB4 := Lib.hid (HB3.out.trans (hb4.mono HB3.out.size)); clear hb4))
        go_roundw
        case rel => exact ⟨i + 1, by omega, by go_num, Lib.hid (HJ.out.trans (HB4.out.mono HJ.out.size))⟩
        case measure => simp [intOf]; omega
      · rw [if_neg h0] at ht
        have HX := Lib.hid (idxTold L i hlt (toldC noNode (.slice xo xm xc) (.slice po 0 pc) (.slice oo 0 oc)) (by rw [← HLL.out, allT_cut HL.out i hlt, ht]))
        have HNM := Lib.hid h0
        clear ht h0
        unfold toldC noNode at HX
        dsimp only at HX
        go_wp2_with (first
          | (refine wp_index9 rfl (.tmp 8) (.tmp 9) 146 rfl _ HX.out ?_)
          | (refine wp_store_new rfl 145 (.tmp 4) (.tmp 12) rfl wr.heap.size #[.int .i64 0, .int .i64 0, .int .i64 0, .int .i64 0, .int .i64 0, .int .i64 0, .int .i64 0, .int .i64 0, .int .i64 0, .int .i64 0, .slice xo xm xc, .int .i64 0, .slice po 0 pc, .slice oo 0 oc] rfl rfl (there_new0 _ _ _ rfl) (by kernel_rfl) (one_told ..) rfl ?_; intro w3 hr3 hw3; have HB3 : Hid (Below wr.heap.size wr w3) := Lib.hid (hw3 _ _ (Nat.le_refl _) ((Below.refl _ _).alloc (Nat.le_refl _) _)); have HR3 := Lib.hid hr3; clear hw3 hr3)
          | (refine wpList_load_mid rfl 145 (.tmp 4) rfl wr.heap.size 0 rfl _ _ HR3.out Tryz.underlying145 rfl (by kernel_rfl) ?_)
          | (go_at_call 214; refine (snode_free hlt ((HW.out.later HJ.out).later HB3.out) (if_neg HNM.out) ((HI.out.later HJ.out).later HB3.out) HE.out _ _ _ _ _ _ _ _ _ _ _ _ _).mono ?_; rintro e w4 ⟨rfl, hb4⟩; have HB4 := Lib.hid (HB3.out.trans (hb4.mono HB3.out.size)); clear hb4))
        go_roundw
        case rel => exact ⟨i + 1, by omega, by go_num, Lib.hid (HJ.out.trans (HB4.out.mono HJ.out.size))⟩
        case measure => simp [intOf]; omega
    · have hit : i = 32 := by omega
      subst hit
      go_wp2_with fail
      go_ret
      exact ⟨rfl, HJ.out⟩

/-- The first bytes of a text. -/
theorem arg_first {w : World} {ao : Option Addr} {len cap k : Nat} {zs : List Int} (h : Arg w ao len cap zs) (hk : k ≤ len) : Arg w ao k cap (zs.take k) := by
  obtain ⟨⟨h1, h2, h3, h4⟩, h5, h6, h7⟩ := h
  refine ⟨⟨by rw [List.length_take]; omega, by omega, fun z hz => h3 z (List.mem_of_mem_take hz), ?_⟩, fun e => ⟨by have := (h5 e).1; omega, (h5 e).2⟩, by omega, by omega⟩
  rcases h4 with h4 | ⟨b, off, e, hc⟩
  · exact Or.inl (by omega)
  · refine Or.inr ⟨b, off, e, fun j hj => ?_⟩
    rw [hc j (by omega), List.getD_eq_getElem?_getD, List.getD_eq_getElem?_getD, List.getElem?_take, if_pos hj]
/-- Blocks, as a call is handed them. -/
theorem iblocks_rows {w : World} {a : Addr} {F : Nat → Prop} {I : Img} (h : ImgI w a F I) (n : Nat) (hn : I.bl.length = n) (h0 : 0 < n) :
    Calls Tryz.prog 14 #[.pointer (some a)] w fun e w' => ∃ g cap, e = .returned (.slice (some ⟨g, 0, none⟩) n cap) ∧ RowsIn w' (some ⟨g, 0, none⟩) n cap I.bl ∧ Below w.heap.size w w' := by
  refine (iblocks_any h).mono ?_
  rintro e w' ⟨v, rfl, ho, hb⟩
  obtain ⟨g, cap, rfl, hc, hg, hr⟩ := ho.rows (by omega)
  have h2 := hr 0 n (by omega)
  rw [List.drop_zero, List.take_of_length_le (by omega), Nat.sub_zero] at h2
  rw [hn]
  exact ⟨_, _, rfl, h2, hb⟩

set_option maxRecDepth 100000 in
set_option maxHeartbeats 3200000 in
theorem sflags_empty {w : World} {p : Nat} {a : Addr} {F : Nat → Prop} {I : Img} {T : Nat → List Value} {nm : Nat → Int} {n : Nat} {f : Int} (hW : WAt w p a T nm (fun _ => 0)) (hI : ImgI w a F I) (hE : EmptyI I.bl n f) :
    Calls Tryz.prog 157 #[.pointer (some ⟨p, 0, none⟩)] w fun e w' => e = .returned (.bool true) ∧ Below w.heap.size w w' := by
  obtain ⟨m, hm⟩ : ∃ m, I.bl.length = m := ⟨_, rfl⟩
  have hm64 : 64 ≤ m := by have := hE.vol.n64; omega
  have cB := iblocks_rows hI m hm (by omega)
  have q0 := hW.c0
  have HW := Lib.hid hW
  have HE := Lib.hid hE
  obtain ⟨L, hL⟩ : ∃ L, List.replicate 480 (Value.int .i64 0) = L := ⟨_, rfl⟩
  have HLL := Lib.hid hL
  have HU : Hid (∀ W, Below w.heap.size w W → W.rangeAt p 481 L) := Lib.hid (fun W hb => by rw [← hL]; exact (hW.later hb).uses)
  have HUL : Hid ((Tryz.prog.info? 148).map (·.size) = some L.length) := Lib.hid (by rw [← hL, List.length_replicate]; kernel_rfl)
  have m2 : (2 : Int) < (m : Int) := by omega
  have m3 : 2 < m := by omega
  have h64 : (I.bl.getD 2 []).length = 64 := by
    obtain ⟨_, _, _, _, _, _, _, rfl, h, _⟩ := hI
    exact (h.rb.1.at (by omega)).1
  have H64 := Lib.hid h64
  clear hW hI hE hm64 hm h64 hL
  go_enter Tryz.func157, Tryz.ntmps157
  go_wp2_with (first
    | (go_at_call 14; refine cB.mono ?_; rintro e w2 ⟨g, cap, rfl, hr, hb⟩; obtain ⟨b2, o2, ad, c2, he, d2, q2⟩ := hr.full m3 H64.out; cases he; rw [Nat.zero_add] at d2
       obtain ⟨bb, ob, had, _⟩ := q2.1.2.2.2.resolve_left (by decide)
       cases had
       have c60 : (60 : Int) ≤ (c2 : Int) := by have := q2.2.2.1; omega
       have c61 : 60 ≤ c2 := by omega
       have HB2 := Lib.hid hb
       have HA2 := Lib.hid q2
       clear hb hr q2)
    | (refine wpList_load_mid rfl 148 (.tmp 18) rfl p 481 rfl L _ (HU.out _ HB2.out) Tryz.underlying148 rfl HUL.out ?_))
  have HA60 : Hid (Arg w2 (some ⟨bb, ob, none⟩) 60 c2 (flagsAt I.bl)) := Lib.hid (arg_first HA2.out (by decide))
  have HND : Hid (∀ W, Below w.heap.size w W → ∀ k : Nat, k < 480 → Calls Tryz.prog 93 #[.pointer (some ⟨p, 0, none⟩), .int .i64 k] W fun e w' => e = .returned (.bool (decide (k < 59))) ∧ W = w') := Lib.hid (fun W hb k hk => needs_none (HW.out.later hb) hk)
  clear HU HUL HW d2 q0 HA2 H64
  have HJ0 : Hid (Below w2.heap.size w2 w2) := Lib.hid (Below.refl _ _)
  go_loopw [20] (fun kv wr => ∃ i : Nat, i ≤ 480 ∧ kv = .int .i64 i ∧ Hid (Below w2.heap.size w2 wr)) (fun kv _ => 480 - (intOf kv).toNat)
  case atStart => exact ⟨0, Nat.zero_le _, rfl, HJ0⟩
  case round =>
    obtain ⟨i, hi, rfl, HJ⟩ := hrel
    clear HJ0
    by_cases hlt : i < 480
    · have i2 : (i : Int) < 480 := by omega
      have HX := Lib.hid (idxUse L i hlt (.int .i64 0) (by rw [← HLL.out, List.getElem?_replicate, if_pos hlt]))
      have hfl := HE.out.flg i hlt
      have cU := xUp_any (some ⟨bb, ob, none⟩) 60 c2 (flagsAt I.bl) i wr (HA60.out.later HJ.out) ⟨by omega, by omega⟩
      have e1 : upErr 60 (i : Int) = 0 := by unfold upErr; rw [if_pos rfl, if_neg (by omega)]
      have e2 : upOut (flagsAt I.bl) (i : Int) = decide (i < 59) := by
        unfold upOut
        rw [HA60.out.1.1, e1, Int.toNat_natCast, hfl]
        rfl
      rw [e1, e2] at cU
      have HND2 : Hid (∀ W, Below wr.heap.size wr W → Calls Tryz.prog 93 #[.pointer (some ⟨p, 0, none⟩), .int .i64 i] W fun e w' => e = .returned (.bool (decide (i < 59))) ∧ W = w') := Lib.hid (fun W hb => HND.out W ((HB2.out.trans (HJ.out.mono HB2.out.size)).trans (hb.mono (Nat.le_trans HB2.out.size HJ.out.size))) i hlt)
      generalize decide (i < 59) = b at cU HND2
      clear hfl e1 e2 HLL
      cases b
      all_goals
        go_wp2_with (first
          | (refine wp_index9 rfl (.tmp 19) (.tmp 20) 148 rfl _ HX.out ?_)
          | (go_at_call 144; refine cU.mono ?_; rintro e w3 ⟨rfl, hb3⟩; have HB3 := Lib.hid hb3; clear hb3 cU)
          | (go_at_call 93; refine (HND2.out _ HB3.out).mono ?_; rintro e w4 ⟨rfl, rfl⟩))
        go_roundw
        case rel => exact ⟨i + 1, by omega, by go_num, Lib.hid (HJ.out.trans (HB3.out.mono HJ.out.size))⟩
        case measure => simp [intOf]; omega
    · have hit : i = 480 := by omega
      subst hit
      clear HND
      go_wp2_with fail
      go_ret
      exact ⟨rfl, HB2.out.trans (HJ.out.mono HB2.out.size)⟩
end Go.Proofs.YtmcblhgpcgnaoaaGreatDoor


namespace Go.Proofs.YtmcblhgpcgnaoaaGreatDoor
open Go.RowKit
set_option linter.unusedVariables false
set_option linter.unusedSimpArgs false

theorem eis_nil (w : World) (ao : Option Addr) : EIs w ao 0 (fromE 0 []) := ⟨rfl, by decide, Or.inl rfl⟩
set_option maxRecDepth 100000 in
set_option maxHeartbeats 1600000 in
theorem chread_zero {w : World} (k l z d0 d1 d2 d3 s t : Int) (xo bo : Option Addr) (xc bn bc : Nat) :
    Calls Tryz.prog 122 #[.agg #[.int .i64 k, .int .i64 2, .int .i64 l, .int .i64 z, .int .i64 d0, .int .i64 d1, .int .i64 d2, .int .i64 d3, .int .i64 s, .int .i64 t, .slice xo 0 xc, .int .i64 0], .slice bo bn bc] w fun e w' => ∃ ao cap, e = .returned (.tuple #[.slice ao 0 cap, .slice none 0 0, .int .i64 0]) ∧ Below w.heap.size w w' := by
  have HB1 : Hid (Below w.heap.size w (w.alloc (.cells #[.int .i64 k, .int .i64 2, .int .i64 l, .int .i64 z, .int .i64 d0, .int .i64 d1, .int .i64 d2, .int .i64 d3, .int .i64 s, .int .i64 t, .slice xo 0 xc, .int .i64 0] 49))) := Lib.hid ((Below.refl _ _).alloc (Nat.le_refl _) _)
  have n1 : (w.alloc (.cells #[.int .i64 k, .int .i64 2, .int .i64 l, .int .i64 z, .int .i64 d0, .int .i64 d1, .int .i64 d2, .int .i64 d3, .int .i64 s, .int .i64 t, .slice xo 0 xc, .int .i64 0] 49)).cell? ⟨w.heap.size, 1, none⟩ = some (.int .i64 2) := by rw [World.cell?_alloc_new]; rfl
  have HROW : Hid ((w.alloc (.cells #[.int .i64 k, .int .i64 2, .int .i64 l, .int .i64 z, .int .i64 d0, .int .i64 d1, .int .i64 d2, .int .i64 d3, .int .i64 s, .int .i64 t, .slice xo 0 xc, .int .i64 0] 49)).rangeAt w.heap.size 0 [.int .i64 k, .int .i64 2, .int .i64 l, .int .i64 z, .int .i64 d0, .int .i64 d1, .int .i64 d2, .int .i64 d3, .int .i64 s, .int .i64 t, .slice xo 0 xc, .int .i64 0]) := Lib.hid (fun j v hj => by
    rw [Nat.zero_add, World.cell?_alloc_new]
    simpa using hj)
  go_enter Tryz.func122, Tryz.ntmps122
  go_wp2_with (first
    | (go_at_call 178; refine (chApart_true (n := 0) (m := 0) (zs := []) (ps := []) HIN.out HI4.out (by simp) (by simp)).mono ?_; rintro e w5 ⟨rfl, rfl⟩)
    | (go_at_call 124; refine (To_any (n := 0) (l := []) (eis_nil _ _) (by decide)).mono ?_; rintro e w4 ⟨v4, rfl, hf4, hb4⟩; obtain ⟨po, pc, rfl, hI4, _⟩ := hf4; have HI4 := Lib.hid hI4; obtain ⟨no, nc, hnv, hIN, _⟩ := FreshI.nil w4 w4.heap.size; cases hnv; have HIN := Lib.hid hIN; have HB4 := Lib.hid (HB3.out.trans (hb4.mono HB3.out.size)); clear hI4 hb4 hIN)
    | (go_at_call 177; refine (follow_zero k l z d0 d1 d2 d3 s t xo bo xc bn bc).mono ?_; rintro e w3 ⟨ao, cap, rfl, hb3⟩; have HB3 := Lib.hid (HB1.out.trans (hb3.mono HB1.out.size)); clear hb3)
    | (refine wpList_load_mid rfl 49 (.tmp 2) rfl w.heap.size 0 rfl [.int .i64 k, .int .i64 2, .int .i64 l, .int .i64 z, .int .i64 d0, .int .i64 d1, .int .i64 d2, .int .i64 d3, .int .i64 s, .int .i64 t, .slice xo 0 xc, .int .i64 0] _ HROW.out Tryz.underlying49 rfl (by kernel_rfl) ?_))
  go_ret3
  exact ⟨ao, cap, rfl, HB4.out⟩

set_option maxRecDepth 100000 in
set_option maxHeartbeats 1600000 in
theorem read_nil {w : World} {p q g n cap : Nat} {L : List (List Int)} (k l z d0 d1 d2 d3 s t : Int) (xo : Option Addr) (xc : Nat) (hp : w.cell? ⟨p, q, none⟩ = some (.slice (some ⟨g, 0, none⟩) n cap)) (hR : Rw w g L) (hn : L.length = n) (h0 : 59 < n) (h1 : n ≤ 480) :
    Calls Tryz.prog 70 #[.pointer (some ⟨p, q, none⟩), .agg #[.int .i64 k, .int .i64 2, .int .i64 l, .int .i64 z, .int .i64 d0, .int .i64 d1, .int .i64 d2, .int .i64 d3, .int .i64 s, .int .i64 t, .slice xo 0 xc, .int .i64 0]] w (ReadDone w [] []) := by
  have hp0 := World.block_lt_of_cell? _ _ hp
  have HD : Hid (∀ W, Below w.heap.size w W → Calls Tryz.prog 121 #[.pointer (some ⟨p, q, none⟩)] W fun e w' => ∃ ao cap, e = .returned (.slice ao (n - 59) cap) ∧ WIs w' ao (n - 59) (dataW L n) ∧ (n - 59 ≤ cap) ∧ Below W.heap.size W w') := Lib.hid (fun W hW => data_any (by rw [hW.cell (p := ⟨p, q, none⟩) hp0]; exact hp) (hR.later (by omega) hW) hn h0 h1)
  clear hp hR hn
  have HROW : Hid (∀ W, Below (w.alloc (.cells #[.int .i64 k, .int .i64 2, .int .i64 l, .int .i64 z, .int .i64 d0, .int .i64 d1, .int .i64 d2, .int .i64 d3, .int .i64 s, .int .i64 t, .slice xo 0 xc, .int .i64 0] 49)).heap.size (w.alloc (.cells #[.int .i64 k, .int .i64 2, .int .i64 l, .int .i64 z, .int .i64 d0, .int .i64 d1, .int .i64 d2, .int .i64 d3, .int .i64 s, .int .i64 t, .slice xo 0 xc, .int .i64 0] 49)) W → W.rangeAt w.heap.size 0 [.int .i64 k, .int .i64 2, .int .i64 l, .int .i64 z, .int .i64 d0, .int .i64 d1, .int .i64 d2, .int .i64 d3, .int .i64 s, .int .i64 t, .slice xo 0 xc, .int .i64 0]) := Lib.hid (fun W hW j v hj => by
    rw [hW.cell (p := ⟨w.heap.size, 0 + j, none⟩) (by simp), Nat.zero_add, World.cell?_alloc_new]
    simpa using hj)
  have HB1 : Hid (Below w.heap.size w (w.alloc (.cells #[.int .i64 k, .int .i64 2, .int .i64 l, .int .i64 z, .int .i64 d0, .int .i64 d1, .int .i64 d2, .int .i64 d3, .int .i64 s, .int .i64 t, .slice xo 0 xc, .int .i64 0] 49))) := Lib.hid ((Below.refl _ _).alloc (Nat.le_refl _) _)
  go_enter Tryz.func70, Tryz.ntmps70
  go_wp2_with fail
  refine wp_region_held_drew (S := fun W => W.rangeAt w.heap.size 0 [.int .i64 k, .int .i64 2, .int .i64 l, .int .i64 z, .int .i64 d0, .int .i64 d1, .int .i64 d2, .int .i64 d3, .int .i64 s, .int .i64 t, .slice xo 0 xc, .int .i64 0]) (by kernel_rfl) (HROW.out _ (Below.refl _ _).drew) (fun hHeld => ?_)
  refine wpAnyH_take (i := 0) (oi := { dst := some 24, op := .load 49 (.tmp 3), type := 49, pos := "state.go:163", after := #[], guard := none }) rfl (by kernel_rfl) (by kernel_rfl) (by kernel_rfl) (fun _ _ _ h => h) (yieldsIf_load_mid (by rfl) _ _ rfl _ _ rfl _ _ (fun W h => h) Tryz.underlying49 rfl (by kernel_rfl)) (by assumption) ?_
  try simp only [Act.put, List.setIfInBounds_toArray, List.set_cons_zero, List.set_cons_succ]
  refine wpAnyH_take (i := 1) (oi := ⟨some 25, _, _, _, _, _⟩) (v := .pointer (some ⟨p, q, none⟩)) rfl (by kernel_rfl) (by kernel_rfl) (by kernel_rfl) (fun _ _ _ h => h) (Or.inl ⟨by kernel_rfl, fun w _ => rfl⟩) (by assumption) ?_
  try simp only [Act.put, List.setIfInBounds_toArray, List.set_cons_zero, List.set_cons_succ]
  refine wpAnyH_ready (rs := [2]) (by kernel_rfl) (by simp) ?_
  refine AllReadyH.cons (o := ⟨some 26, _, _, _, _, _⟩) rfl (fun K hK => ?_) AllReadyH.nil
  go_simp
  go_at_call 121
  refine (HD.out _ HB1.out.drew).mono ?_
  rintro e w2 ⟨ao, cp, rfl, hW2, hc2, hb2⟩
  have HB2 := Lib.hid ((Below.refl _ _).drew.trans hb2)
  clear hW2 hc2 hb2
  refine hK.out _ _ ?_ (fun hHeld1 => ?_)
  · exact (HROW.out _ HB2.out)
  clear hK K
  try simp only [Act.put, List.setIfInBounds_toArray, List.set_cons_zero, List.set_cons_succ]
  refine wpAnyH_ready (rs := [3]) (by kernel_rfl) (by simp) ?_
  refine AllReadyH.cons (o := ⟨some 27, _, _, _, _, _⟩) rfl (fun K hK => ?_) AllReadyH.nil
  go_simp
  go_at_call 122
  refine (chread_zero k l z d0 d1 d2 d3 s t xo ao xc (n - 59) cp).mono ?_
  rintro e w3 ⟨lo, lc, rfl, hb3⟩
  have HB3 := Lib.hid (HB2.out.trans (hb3.mono HB2.out.size))
  clear hb3
  refine hK.out _ _ ?_ (fun hHeld2 => ?_)
  · exact (HROW.out _ HB3.out)
  clear hK K
  try simp only [Act.put, List.setIfInBounds_toArray, List.set_cons_zero, List.set_cons_succ]
  refine wpAnyH_take (i := 4) (oi := ⟨some 23, _, _, _, _, _⟩) (v := .tuple #[.slice lo 0 lc, .slice none 0 0, .int .i64 0]) rfl (by kernel_rfl) (by kernel_rfl) (by kernel_rfl) (fun _ _ _ h => h) (Or.inl ⟨by kernel_rfl, fun w _ => rfl⟩) (by assumption) ?_
  try simp only [Act.put, List.setIfInBounds_toArray, List.set_cons_zero, List.set_cons_succ]
  refine wpAnyH_take (i := 5) (oi := ⟨some 28, _, _, _, _, _⟩) (v := .slice lo 0 lc) rfl (by kernel_rfl) (by kernel_rfl) (by kernel_rfl) (fun _ _ _ h => h) (Or.inl ⟨by kernel_rfl, by intro w _; go_simp; (try omega)⟩) (by assumption) ?_
  try simp only [Act.put, List.setIfInBounds_toArray, List.set_cons_zero, List.set_cons_succ]
  refine wpAnyH_take (i := 6) (oi := ⟨some 29, _, _, _, _, _⟩) (v := .slice none 0 0) rfl (by kernel_rfl) (by kernel_rfl) (by kernel_rfl) (fun _ _ _ h => h) (Or.inl ⟨by kernel_rfl, by intro w _; go_simp; (try omega)⟩) (by assumption) ?_
  try simp only [Act.put, List.setIfInBounds_toArray, List.set_cons_zero, List.set_cons_succ]
  refine wpAnyH_take (i := 7) (oi := ⟨some 30, _, _, _, _, _⟩) (v := .int .i64 0) rfl (by kernel_rfl) (by kernel_rfl) (by kernel_rfl) (fun _ _ _ h => h) (Or.inl ⟨by kernel_rfl, by intro w _; go_simp; (try omega)⟩) (by assumption) ?_
  try simp only [Act.put, List.setIfInBounds_toArray, List.set_cons_zero, List.set_cons_succ]
  refine wpAnyH_take (i := 8) (oi := ⟨some 7, _, _, _, _, _⟩) (v := .slice lo 0 lc) rfl (by kernel_rfl) (by kernel_rfl) (by kernel_rfl) (fun _ _ _ h => h) (Or.inl ⟨by kernel_rfl, fun w _ => rfl⟩) (by assumption) ?_
  try simp only [Act.put, List.setIfInBounds_toArray, List.set_cons_zero, List.set_cons_succ]
  refine wpAnyH_take (i := 9) (oi := ⟨some 8, _, _, _, _, _⟩) (v := .slice none 0 0) rfl (by kernel_rfl) (by kernel_rfl) (by kernel_rfl) (fun _ _ _ h => h) (Or.inl ⟨by kernel_rfl, fun w _ => rfl⟩) (by assumption) ?_
  try simp only [Act.put, List.setIfInBounds_toArray, List.set_cons_zero, List.set_cons_succ]
  refine wpAnyH_take (i := 10) (oi := ⟨some 9, _, _, _, _, _⟩) (v := .int .i64 0) rfl (by kernel_rfl) (by kernel_rfl) (by kernel_rfl) (fun _ _ _ h => h) (Or.inl ⟨by kernel_rfl, fun w _ => rfl⟩) (by assumption) ?_
  try simp only [Act.put, List.setIfInBounds_toArray, List.set_cons_zero, List.set_cons_succ]
  refine wpAnyH_done (by kernel_rfl) ?_ _
  go_wp2_with (first
    | (go_at_call 124; refine (To_any (n := 0) (l := []) (eis_nil _ _) (by decide)).mono ?_; rintro e w4 ⟨v4, rfl, hf4, hb4⟩; have HF4 := Lib.hid hf4; have HB4 := Lib.hid (HB3.out.trans (hb4.mono HB3.out.size)); clear hf4 hb4)
    | (go_at_call 123; refine (mustIs_any _ _).mono ?_; rintro e w' ⟨rfl, rfl⟩))
  go_ret3
  have hz : w.heap.size ≤ w3.heap.size := by have := HB3.out.size; simp at this; omega
  exact ⟨v4, _, rfl, HF4.out.mono hz, FreshI.nil _ _, below_new HB4.out⟩
end Go.Proofs.YtmcblhgpcgnaoaaGreatDoor


namespace Go.Proofs.YtmcblhgpcgnaoaaGreatDoor
open Go.RowKit
set_option linter.unusedVariables false
set_option linter.unusedSimpArgs false

section
variable {ops : Array Oper} {rest : List Oper} {o : Oper} {a : Act} {w : World} {Q : Exit → Act → World → Prop}
theorem wp_build_w (hg : o.guard = none) (T : TypeId) (parts : Array (Nat × Operand)) (ho : o.op = .build T parts) (cells : Array Value) (hb : Tryz.prog.built T (parts.map fun (i, x) => (i, a.eval x)).toList = some cells) (h : wpList Tryz.prog ops Q rest (a.put o.dst (.agg cells)) w) : wpList Tryz.prog ops Q (o :: rest) a w := by
  refine wpList_plain hg fun K hK => ?_
  unfold Oper.wp execOp
  simp only [ho, Sem.run_bind, run_build w T _ cells hb, Result.andThen_ok, Sem.run_pure]
  exact hK _ _ h
theorem wp_box_w (hg : o.guard = none) (T : TypeId) (x : Operand) (ho : o.op = .box T x) (vs : Array Value) (hx : a.eval x = .agg vs)
    (h : ∀ n1 w1, n1 = w.heap.size → w1 = w.alloc (.cells vs T) → wpList Tryz.prog ops Q rest (a.put o.dst (.pointer (some ⟨n1, 0, none⟩))) w1) : wpList Tryz.prog ops Q (o :: rest) a w := by
  refine wpList_plain hg fun K hK => ?_
  unfold Oper.wp execOp
  simp only [ho, hx]
  exact hK _ _ (h _ _ rfl rfl)
end

set_option maxRecDepth 100000 in
theorem enode {w : World} {a : Addr} {F : Nat → Prop} {I : Img} {n : Nat} {f : Int} (h : ImgI w a F I) (hE : EmptyI I.bl n f) (k : Nat) (hk : k < 32) :
    Calls Tryz.prog 22 #[.pointer (some a), .int .i64 k] w (NodeDone w (nodeAt I.bl k) [] []) := by
  obtain ⟨p, gb, gl, gs, cb, cl, cs, rfl, h, rfl⟩ := h
  have hnod := hE.nod k hk
  by_cases hc : k = 0 ∧ f = 2
  · obtain ⟨rfl, rfl⟩ := hc
    rw [if_pos rfl] at hnod
    have h64 := hE.vol.n64
    refine inode_of 0 hk h hE.vol (fun W xo xm xc hW hX => ?_) rfl
    rw [hnod] at hX ⊢
    obtain rfl : xm = 0 := hX.1.symm
    exact read_nil 2 1 0 0 0 0 0 0 0 xo xc (by rw [hW.cell (p := ⟨p, 0, none⟩) h.lt.1]; exact h.c0) (h.rb.later h.n0.1 hW) rfl (by omega) h64.2
  · refine inode_at k hk h hE.vol ?_ rfl
    rw [hnod]
    by_cases e : k = 0
    · rw [if_pos e]
      have hf := hE.fok
      obtain rfl : f = 1 := by
        rcases Int.lt_or_le 1 f with h1 | h1
        · exact absurd ⟨e, by omega⟩ hc
        · omega
      exact Or.inr ⟨rfl, List.replicate 30 0, 0, 0, 0, List.replicate 30 0, List.replicate 30 0, List.replicate 30 0, rfl, rfl, rfl, rfl, rfl, by decide, by decide, by decide, by decide⟩
    · rw [if_neg e]
      exact Or.inl ⟨rfl, rfl, rfl⟩

theorem open_empty {ao : Option Addr} {c n : Nat} {f : Int} (w : World) (hX : RowsIn w ao n c (emptyP n f)) (h1 : 64 ≤ n) (h2 : n ≤ 480) (hf : 1 ≤ f ∧ f ≤ 2) :
    Calls Tryz.prog 19 #[.slice ao n c] w fun e w' => ∃ a F' I, e = .returned (.tuple #[.pointer (some a), .int .i64 0]) ∧ ImgI w' a F' I ∧ EmptyI I.bl n f ∧ Below w.heap.size w w' := by
  have hE := emptyI h1 h2 hf
  have h64 : len64 (emptyP n f) = true := len64_iff.2 (fun j hj => emptyP_64 f h1 j hj)
  generalize emptyP n f = B at hX hE h64
  have ho : openB B = true := by unfold openB; rw [h64, volB_iff.2 hE.vol]; rfl
  refine (iopen_any w hX (fun i hi _ => by omega) (by omega)).mono ?_
  rintro e w' ⟨h, hb⟩
  rcases h with ⟨_, a, F', rfl, hI, _⟩ | ⟨h, _⟩
  · exact ⟨a, F', _, rfl, hI, hE, hb⟩
  · rw [ho] at h; cases h

set_option maxRecDepth 100000 in
set_option maxHeartbeats 3200000 in
theorem walked_empty {ao : Option Addr} {c n : Nat} {f : Int} (w : World) (hX : RowsIn w ao n c (emptyP n f)) (h1 : 64 ≤ n) (h2 : n ≤ 480) (hf : 1 ≤ f ∧ f ≤ 2) :
    Calls Tryz.prog 92 #[.slice ao n c] w fun e w' => ∃ p a F I T, e = .returned (.tuple #[.pointer (some ⟨p, 0, none⟩), .int .i64 0]) ∧ WAt w' p a T (fun i => if i = 0 then 1 else 0) (fun _ => 0) ∧ ImgI w' a F I ∧ EmptyI I.bl n f ∧ Below w.heap.size w w' := by
  have cO := open_empty w hX h1 h2 hf
  have HF := Lib.hid hf
  clear hX h1 h2
  go_enter Tryz.func92, Tryz.ntmps92
  go_wp2_with (first
    | (go_at_call 19; refine cO.mono ?_; rintro e w1 ⟨a, F, I, rfl, hI, hE, hb⟩; have HI1 := Lib.hid hI; have HE := Lib.hid hE; have HB1 := Lib.hid hb; clear hI hE hb cO)
    | (refine wp_build_w rfl 150 _ rfl (walkZ a).toArray (built_walker a) ?_)
    | (refine wp_box_w rfl 150 (.tmp 16) rfl _ rfl ?_
       intro p w2 hp hw2
       have hb2 : Below w1.heap.size w1 w2 := by rw [hw2]; exact (Below.refl _ _).alloc (Nat.le_refl _) _
       have hwa : WAt w2 p a (fun _ => told0) (fun _ => 0) (fun _ => 0) := by rw [hw2, hp]; exact walkZ_at w1 a _
       have q0 := hwa.c0
       have HW2 := Lib.hid hwa
       have HI2 := Lib.hid (HI1.out.later hb2)
       have HB2 := Lib.hid (HB1.out.trans (hb2.mono HB1.out.size))
       have HFP : Hid (¬ F p ∧ w.heap.size ≤ p) := Lib.hid ⟨fun h => by have := HI1.out.lt _ h; omega, by have := HB1.out.size; omega⟩
       clear hp hw2 hb2 hwa)
    | (go_at_call 16; refine (esuper HI2.out HE.out).mono ?_; rintro e w3 ⟨rfl, hb3⟩; have HB3 := Lib.hid hb3; clear hb3)
    | (go_at_call 153; refine (job_none _ _ HF.out).mono ?_; rintro e w4 ⟨rfl, hb4⟩; have hb := HB3.out.trans (hb4.mono HB3.out.size); have HW4 := Lib.hid (HW2.out.later hb); have HI4 := Lib.hid (HI2.out.later hb); have HB4 := Lib.hid (HB2.out.trans (hb.mono HB2.out.size)); clear hb4 hb)
    | (go_at_call 154; refine (wread_empty HW4.out HI4.out (fun W h k hk => enode h HE.out k hk) HFP.out.1 HB4.out (Nat.le_refl _) HFP.out.2).mono ?_; rintro e w5 ⟨rfl, ⟨T, hw5, ht5⟩, hi5, hb5⟩; have HW5 := Lib.hid hw5; have HT5 := Lib.hid ht5; have HI5 := Lib.hid hi5; have HB5 := Lib.hid hb5; clear hw5 ht5 hi5 hb5)
    | (go_at_call 155; refine (name_root HW5.out (by have h := HT5.out 0 (by decide); rw [HE.out.nod 0 (by decide), if_pos rfl] at h; exact h) HI5.out HFP.out.1 HB5.out (Nat.le_refl _) HFP.out.2).mono ?_; rintro e w6 ⟨rfl, hw6, hi6, hb6⟩; have HW6 := Lib.hid hw6; have HI6 := Lib.hid hi6; have HB6 := Lib.hid hb6; clear hw6 hi6 hb6)
    | (go_at_call 156; refine (snodes_empty HW6.out HT5.out HI6.out HE.out).mono ?_; rintro e w7 ⟨rfl, hb7⟩; have HW7 := Lib.hid (HW6.out.later hb7); have HI7 := Lib.hid (HI6.out.later hb7); have HB7 := Lib.hid (HB6.out.trans (hb7.mono HB6.out.size)); clear hb7)
    | (go_at_call 157; refine (sflags_empty HW7.out HI7.out HE.out).mono ?_; rintro e w8 ⟨rfl, hb8⟩; have HW8 := Lib.hid (HW7.out.later hb8); have HI8 := Lib.hid (HI7.out.later hb8); have HB8 := Lib.hid (HB7.out.trans (hb8.mono HB7.out.size)); clear hb8))
  go_ret2
  exact ⟨p, a, F, I, T, rfl, HW8.out, HI8.out, HE.out, HB8.out⟩
end Go.Proofs.YtmcblhgpcgnaoaaGreatDoor


namespace Go.Proofs.YtmcblhgpcgnaoaaGreatDoor
open Go.RowKit
set_option linter.unusedVariables false
set_option linter.unusedSimpArgs false

set_option maxRecDepth 100000 in
set_option maxHeartbeats 1600000 in
theorem check_empty {ao : Option Addr} {c n : Nat} {f : Int} (w : World) (hX : RowsIn w ao n c (emptyP n f)) (h1 : 64 ≤ n) (h2 : n ≤ 480) (hf : 1 ≤ f ∧ f ≤ 2) :
    Calls Tryz.prog 37 #[.slice ao n c] w fun e w' => e = .returned (.tuple #[.int .i64 f, .int .i64 0]) ∧ Below w.heap.size w w' := by
  have cW := walked_empty w hX h1 h2 hf
  have hfld : ∀ (v0 v1 v2 v3 v4 : Value) (w : World), (Instr.field 32 (.agg #[v0, v1, v2, v3, v4]) 1).run Tryz.prog w = .ok v1 w := fun _ _ _ _ _ _ => by kernel_rfl
  clear hX h1 h2 hf
  go_enter Tryz.func37, Tryz.ntmps37
  go_wp2_with (first
    | (go_at_call 92; refine cW.mono ?_; rintro e w1 ⟨p, a, F, I, T, rfl, hW, hI, hE, hb⟩; have q0 := hW.c0; have HI := Lib.hid hI; have HE := Lib.hid hE; have HB := Lib.hid hb; clear hW hI hE hb cW)
    | (go_at_call 16; refine (esuper HI.out HE.out).mono ?_; rintro e w3 ⟨rfl, hb3⟩; have HB3 := Lib.hid (HB.out.trans (hb3.mono HB.out.size)); clear hb3))
  go_ret2
  exact ⟨rfl, HB3.out⟩

/-- The numbers ahead of one. -/
def upTo (k : Nat) : List Value := (List.range k).map fun (i : Nat) => Value.int .i64 (i : Int)
theorem upTo_succ (k : Nat) : upTo (k + 1) = upTo k ++ [.int .i64 (k : Int)] := by
  unfold upTo
  rw [List.range_succ, List.map_append]
  rfl

set_option maxRecDepth 100000 in
set_option maxHeartbeats 3200000 in
theorem used_empty {ao : Option Addr} {c n : Nat} {f : Int} (w : World) (hX : RowsIn w ao n c (emptyP n f)) (h1 : 64 ≤ n) (h2 : n ≤ 480) (hf : 1 ≤ f ∧ f ≤ 2) :
    Calls Tryz.prog 38 #[.slice ao n c] w fun e w' => ∃ g cap, e = .returned (.tuple #[.slice (some ⟨g, 0, none⟩) 59 cap, .int .i64 0]) ∧ w'.cell? ⟨g, 58, none⟩ = some (.int .i64 58) ∧ 59 ≤ cap ∧ Below w.heap.size w w' := by
  have cW := walked_empty w hX h1 h2 hf
  clear hX h1 h2 hf
  go_enter Tryz.func38, Tryz.ntmps38
  go_wp2_with (go_at_call 92; refine cW.mono ?_; rintro e w1 ⟨p, a, F, I, T, rfl, hW, hI, hE, hb⟩; have HW := Lib.hid hW; have HB := Lib.hid hb; clear hW hI hE hb cW)
  have HJ0 : Hid (w1.ownsRow w1.heap.size 3 1 (.slice none 0 0) (min 0 59) (upTo (min 0 59)) ∧ Below w1.heap.size w1 w1) := Lib.hid ⟨owns_nil_r _ _ _ _, Below.refl _ _⟩
  go_loopw [6, 16] (fun vv kv wr => ∃ i : Nat, i ≤ 480 ∧ kv = .int .i64 i ∧ Hid (wr.ownsRow w1.heap.size 3 1 vv (min i 59) (upTo (min i 59)) ∧ Below w1.heap.size w1 wr)) (fun _ kv _ => 480 - (intOf kv).toNat)
  case atStart => exact ⟨0, Nat.zero_le _, rfl, HJ0⟩
  case round =>
    obtain ⟨i, hi, rfl, HJ⟩ := hrel
    clear HJ0
    by_cases hlt : i < 480
    · have i2 : (i : Int) < 480 := by omega
      have cN := needs_none (HW.out.later HJ.out.2) hlt
      by_cases h59 : i < 59
      · rw [show decide (i < 59) = true from decide_eq_true h59] at cN
        have ho := HJ.out.1
        rw [show min i 59 = i by omega] at ho
        obtain ⟨va, vc, rfl⟩ := owns_shape_r ho
        have HO := Lib.hid ho
        have HBW := Lib.hid HJ.out.2
        clear HJ ho
        go_wp2_with (first
          | (go_at_call 93; refine cN.mono ?_; rintro e w' ⟨rfl, rfl⟩)
          | (at_builtin; refine wp_append_r elemIR rfl (.tmp 22) (.tmp 24) rfl w1.heap.size i (.slice va i vc) (upTo i) rfl (owns_later_r HO.out ((Below.refl _ _).alloc (Nat.le_refl _) _)) ⟨wr.heap.size, 0, none⟩ 1 1 [.int .i64 i] rfl rfl (news_r wr [.int .i64 i] _) (by intro u hu; simp at hu; rw [hu]; rfl) (by omega) (by have := HBW.out.size; simp; omega) ?_; intro v5 w5 hown5 hg5 hb5; have HO5 := Lib.hid hown5; have HB5 := Lib.hid ((HBW.out.alloc HBW.out.size _).trans hb5); clear hown5 hg5 hb5))
        refine ⟨⟨i + 1, by omega, by go_num, Lib.hid ⟨?_, HB5.out⟩⟩, by simp [intOf]; omega⟩
        rw [show min (i + 1) 59 = i + 1 by omega, upTo_succ]
        exact HO5.out
      · rw [show decide (i < 59) = false from decide_eq_false h59] at cN
        have HM : Hid (min (i + 1) 59 = min i 59) := Lib.hid (by omega)
        go_wp2_with (go_at_call 93; refine cN.mono ?_; rintro e w' ⟨rfl, rfl⟩)
        refine ⟨⟨i + 1, by omega, by go_num, Lib.hid ?_⟩, by simp [intOf]; omega⟩
        rw [HM.out]
        exact HJ.out
    · have hit : i = 480 := by omega
      subst hit
      have ho := HJ.out.1
      rw [show min 480 59 = 59 by decide] at ho
      have HO := Lib.hid ho
      have HBW := Lib.hid HJ.out.2
      clear HJ ho
      go_wp2_with fail
      go_ret2
      rcases HO.out.2 with ⟨_, h0⟩ | ⟨g, cap, cur, hv, hb, hh, hc, hm, hs, ht⟩
      · cases h0
      · refine ⟨g, cap, by rw [← hv]; rfl, ?_, hc, HB.out.trans (HBW.out.mono HB.out.size)⟩
        have e := HO.out.cells (g := g) (by rw [hv]; rfl) 58 (.int .i64 58) rfl
        rw [Go.WideShapes.add_plain, Nat.zero_add] at e
        exact e
end Go.Proofs.YtmcblhgpcgnaoaaGreatDoor


namespace Go.Proofs.YtmcblhgpcgnaoaaGreatDoor
open Go.RowKit
set_option linter.unusedVariables false
set_option linter.unusedSimpArgs false

/-- A list of blocks of 64 bytes in block g, each text elsewhere. -/
def BRow (base : Nat) (w0 : World) (g : Nat) (L : List (List Int)) (w : World) : Prop :=
  ∃ xs, xs.length = L.length ∧ OwnV base w0 g xs w ∧ ∀ (j : Nat) (zs : List Int), L[j]? = some zs → ∃ db off cap, xs[j]? = some (.slice (some ⟨db, off, none⟩) 64 cap) ∧ db ≠ g ∧ Arg w (some ⟨db, off, none⟩) 64 cap zs
theorem BRow.below {base g : Nat} {w0 w : World} {L : List (List Int)} (h : BRow base w0 g L w) : Below base w0 w := by
  obtain ⟨xs, _, h2, _⟩ := h
  exact h2.2.2.2
theorem BRow.later {base g : Nat} {w0 w w' : World} {L : List (List Int)} (h : BRow base w0 g L w) (hb : Below w.heap.size w w') (h0 : L ≠ []) : BRow base w0 g L w' := by
  obtain ⟨xs, h1, h2, h3⟩ := h
  refine ⟨xs, h1, h2.later hb (fun e => h0 (List.length_eq_zero_iff.1 (by rw [← h1, e]; rfl))), fun j zs hj => ?_⟩
  obtain ⟨d, o, c, c1, c2, c3⟩ := h3 j zs hj
  exact ⟨d, o, c, c1, c2, c3.later hb⟩
theorem arg_setCell {w : World} {db off cap n : Nat} {zs : List Int} {p : Addr} {v : Value} (h : Arg w (some ⟨db, off, none⟩) n cap zs) (hp : p.block ≠ db) : Arg (w.setCell p v) (some ⟨db, off, none⟩) n cap zs := by
  obtain ⟨⟨h1, h2, h3, h4⟩, h5, h6, h7⟩ := h
  refine ⟨⟨h1, h2, h3, h4.imp_right ?_⟩, h5, h6, h7⟩
  rintro ⟨b', o', e, hc⟩
  cases e
  exact ⟨db, off, rfl, fun j hj => by rw [World.cell?_setCell_other (h := fun e => hp (by rw [e]))]; exact hc j hj⟩
theorem BRow.set {base g k : Nat} {w0 w : World} {L : List (List Int)} {zs : List Int} {db off cap : Nat} (h : BRow base w0 g L w) (hk : k < L.length) (hd : db ≠ g) (hA : Arg w (some ⟨db, off, none⟩) 64 cap zs) :
    BRow base w0 g (L.set k zs) (w.setCell ⟨g, k, none⟩ (.slice (some ⟨db, off, none⟩) 64 cap)) := by
  obtain ⟨xs, h1, h2, h3⟩ := h
  refine ⟨xs.set k (.slice (some ⟨db, off, none⟩) 64 cap), by rw [List.length_set, List.length_set, h1], h2.store (by omega), fun j ys hj => ?_⟩
  rw [List.getElem?_set] at hj ⊢
  by_cases e : k = j
  · rw [if_pos e, if_pos (by omega)] at hj
    rw [if_pos e, if_pos (by omega)]
    cases hj
    exact ⟨db, off, cap, rfl, hd, arg_setCell hA (fun e => hd e.symm)⟩
  · rw [if_neg e] at hj
    rw [if_neg e]
    obtain ⟨d, o, c, c1, c2, c3⟩ := h3 j ys hj
    exact ⟨d, o, c, c1, c2, arg_setCell c3 (fun e => c2 e.symm)⟩
theorem BRow.cell {base g k : Nat} {w0 w : World} {L : List (List Int)} (h : BRow base w0 g L w) (hk : k < L.length) : ∃ v, w.cell? ⟨g, k, none⟩ = some v := by
  obtain ⟨xs, h1, h2, h3⟩ := h
  exact ⟨_, h2.1 k _ (List.getElem?_eq_getElem (by omega))⟩
theorem BRow.fz {base g : Nat} {w0 w : World} {L : List (List Int)} (h : BRow base w0 g L w) (k : Nat) : w.frozen? ⟨g, k, none⟩ = false := by
  obtain ⟨xs, h1, h2, h3⟩ := h
  exact h2.2.1 k
theorem brow_of_own {base lo : Nat} {w0 w : World} {v : Value} {L : List (List Int)} (h : BOwn base lo w v L) (hn : 0 < L.length) (hb : Below base w0 w) : ∃ g cap, v = .slice (some ⟨g, 0, none⟩) L.length cap ∧ L.length ≤ cap ∧ BRow base w0 g L w := by
  obtain ⟨xs, ho, hx⟩ := h
  have hxl : xs.length = L.length := by have := ho.1; omega
  rcases ho.2 with ⟨_, h0⟩ | ⟨g, cap, cur, hv, hg, hh, hc, _⟩
  · omega
  · have hv2 := hv
    rw [hv] at ho
    refine ⟨g, cap, hv, hc, xs, hxl, ⟨fun j x hj => ?_, fun j => ho.frozenAt j, hg, hb⟩, fun j zs hj => ?_⟩
    · have e := ho.cells (g := g) rfl _ _ hj
      rwa [Go.WideShapes.add_plain, Nat.zero_add] at e
    · obtain ⟨d, o, c, c1, c2, c3, c4⟩ := hx j zs hj
      exact ⟨d, o, c, c1, fun e => c3 (by rw [hv, e]; rfl), c4⟩
theorem BRow.rows {base g : Nat} {w0 w : World} {L : List (List Int)} (h : BRow base w0 g L w) {cap : Nat} (hc : L.length ≤ cap) : RowsIn w (some ⟨g, 0, none⟩) L.length cap L := by
  obtain ⟨xs, h1, h2, h3⟩ := h
  refine ⟨rfl, hc, Or.inr ⟨g, 0, rfl, fun j hj => ?_⟩⟩
  obtain ⟨d, o, c, c1, c2, c3⟩ := h3 j _ (List.getElem?_eq_getElem hj)
  refine ⟨_, 64, c, by rw [Nat.zero_add]; exact h2.1 j _ c1, ?_, c3.2.2.1⟩
  rw [List.getD_eq_getElem?_getD, List.getElem?_eq_getElem hj]
  exact c3.1
end Go.Proofs.YtmcblhgpcgnaoaaGreatDoor


namespace Go.Proofs.YtmcblhgpcgnaoaaGreatDoor
open Go.RowKit
set_option linter.unusedVariables false
set_option linter.unusedSimpArgs false

/-- The blocks from a to m. -/
def oneF (a m n : Nat) : Bool := decide (a ≤ n ∧ n < m)
theorem oneF_none (a : Nat) : boolsV (oneF a a) 480 = boolsV (fun _ => false) 480 := boolsV_congr (fun n _ => by unfold oneF; exact decide_eq_false (by omega))
theorem oneF_next {a k : Nat} (h : a ≤ k) (hk : k < 480) : (boolsV (oneF a k) 480).set k (.bool true) = boolsV (oneF a (k + 1)) 480 := by
  rw [boolsV_set _ hk]
  refine boolsV_congr (fun n _ => ?_)
  unfold oneF
  by_cases e : n = k
  · rw [if_pos e]; exact (decide_eq_true (by omega)).symm
  · rw [if_neg e]
    by_cases h2 : a ≤ n ∧ n < k
    · rw [decide_eq_true h2, decide_eq_true (by omega)]
    · rw [decide_eq_false h2, decide_eq_false (by omega)]
theorem made_bools (w : World) : OwnV w.heap.size w w.heap.size (boolsV (fun _ => false) 480) (w.alloc (.cells (madeCells (Value.bool false).cells 480) 4)) := by
  refine ⟨fun j x hj => ?_, fun j => by rw [World.frozen?_alloc_mark]; simp, Nat.le_refl _, (Below.refl _ _).alloc (Nat.le_refl _) _⟩
  have hlt : j < 480 := by have h := (List.getElem?_eq_some_iff.1 hj).1; rwa [boolsV_length] at h
  rw [boolsV_at _ hlt] at hj
  rw [World.cell?_alloc_new, ← hj]
  simp [madeCells, hlt, Nat.mod_one, Value.cells]
theorem freshV_of_own {w0 w : World} {g : Nat} {xs : List Value} {base : Nat} (h : OwnV base w0 g xs w) (hl : xs.length ≤ 140737488351232) : FreshV w base (.slice (some ⟨g, 0, none⟩) xs.length xs.length) xs :=
  ⟨_, xs.length, rfl, h.vals hl, Nat.le_refl _, Or.inr ⟨g, rfl, h.2.2.1, h.2.1⟩⟩

set_option maxRecDepth 100000 in
set_option maxHeartbeats 1600000 in
theorem Blocks02_one {w : World} {g o c x y a b : Nat} (hc : w.cell? ⟨g, o, none⟩ = some (.complex .f64 x y)) (hx : FI x a) (hy : FI y b) (hb : 1 ≤ b) (hab : a + b ≤ 480) :
    Calls Tryz.prog 103 #[.slice (some ⟨g, o, none⟩) 1 c] w fun e w' => ∃ v, e = .returned (.tuple #[v, .bool true]) ∧ FreshV w' w.heap.size v (boolsV (oneF a (a + b)) 480) ∧ Below w.heap.size w w' := by
  have hmk := run_make_vals elemBool w 480 (by decide)
  rw [show ((480 : Nat) : Int) = 480 from rfl] at hmk
  have HP : Hid (∀ W, Calls Tryz.prog 131 #[.complex .f64 x y] W (Tells W.heap.size W (.tuple #[.int .i64 (a : Int), .int .i64 (b : Int), .bool true]))) := Lib.hid (fun W => Parts02c_any x y (a : Int) (b : Int) W hx hy (by omega) (by omega) (by omega))
  have HC := Lib.hid hc
  have HO0 := Lib.hid (made_bools w)
  obtain ⟨q, hq⟩ : ∃ q, w.heap.size = q := ⟨_, rfl⟩
  have HQ := Lib.hid hq
  rw [hq] at hmk HO0
  clear hc hx hy hq
  go_enter Tryz.func103, Tryz.ntmps103
  go_wp2_with fail
  clear hmk
  have HJ0 : Hid (OwnV q w q (boolsV (oneF a (a + 0 * b)) 480) (w.alloc (.cells (madeCells (Value.bool false).cells 480) 4))) := Lib.hid (by
    rw [Nat.zero_mul, Nat.add_zero, oneF_none]
    exact HO0.out)
  clear HO0
  go_loopw [5] (fun iv wr => ∃ i : Nat, i ≤ 1 ∧ iv = .int .i64 (i : Int) ∧ Hid (OwnV q w q (boolsV (oneF a (a + i * b)) 480) wr)) (fun iv _ => 1 - (intOf iv).toNat)
  case atStart => exact ⟨0, by decide, rfl, HJ0⟩
  case round =>
    obtain ⟨i, hi, rfl, HJ⟩ := hrel
    clear HJ0
    by_cases hlt : i < 1
    · have h0 : i = 0 := by omega
      subst h0
      have hcell := (show wr.cell? ⟨g, o, none⟩ = some (.complex .f64 x y) from cell_later (HQ.out ▸ HJ.out.2.2.2) HC.out)
      go_wp2_with (go_at_call 131; refine (HP.out _).mono ?_; rintro e w2 ⟨rfl, hb2⟩; have HO2 := Lib.hid (HJ.out.later hb2 (by rw [ne_eq, ← List.length_eq_zero_iff, boolsV_length]; decide)); clear hb2 hcell HP)
      rw [Nat.zero_mul, Nat.add_zero] at HO2
      clear HJ
      have hab2 : (a : Int) + (b : Int) ≤ 480 := by omega
      go_loopw [9] (fun kv wk => ∃ k : Nat, a ≤ k ∧ k ≤ a + b ∧ kv = .int .i64 (k : Int) ∧ Hid (OwnV q w q (boolsV (oneF a k) 480) wk)) (fun kv _ => a + b - (intOf kv).toNat)
      case atStart => exact ⟨a, Nat.le_refl _, by omega, rfl, HO2⟩
      case round =>
        obtain ⟨k, hk1, hk2, rfl, HK⟩ := hrel
        clear HO2
        by_cases hkl : k < a + b
        · have i2 : (k : Int) < (a : Int) + (b : Int) := by omega
          have k0 : (0 : Int) ≤ (k : Int) := by omega
          have k4 : (k : Int) < 480 := by omega
          have k5 : k < 480 := by omega
          have hf := HK.out.2.1 k
          have hce := HK.out.1 k _ (boolsV_at _ k5)
          go_wp2_with fail
          have HS := Lib.hid (HK.out.store (k := k) (y := .bool true) (by rw [boolsV_length]; omega))
          rw [oneF_next hk1 k5] at HS
          exact ⟨⟨k + 1, by omega, by omega, by go_num, HS⟩, by simp [intOf]; omega⟩
        · have hkk : k = a + b := by omega
          have i3 : (k : Int) = (a : Int) + (b : Int) := by omega
          have hn : decide ((k : Int) < (a : Int) + (b : Int)) = false := decide_eq_false (by omega)
          go_wp2_with fail
          exact ⟨⟨1, by decide, by go_num, Lib.hid (by rw [Nat.one_mul, ← hkk]; exact HK.out)⟩, by simp [intOf]⟩
    · have h1 : i = 1 := by omega
      subst h1
      go_wp2_with fail
      go_ret2
      have ho := HJ.out
      rw [Nat.one_mul] at ho
      have hf := freshV_of_own ho (by rw [boolsV_length]; decide)
      rw [boolsV_length] at hf
      rw [HQ.out]
      exact ⟨_, rfl, hf, ho.2.2.2⟩

/-! ### Map -/
/-- The flags ahead of n. -/
def below (f : Nat → Bool) (n m : Nat) : Bool := if m < n then f m else false
theorem bitV_t (k : Nat) : bitV true k = 2 ^ k := rfl
theorem bitV_f (k : Nat) : bitV false k = 0 := rfl
theorem byte_up {g h : Nat → Bool} {q r : Nat} (hr : r < 8) (hg : g (8 * q + r) = false) (hh : h (8 * q + r) = true) (ho : ∀ m, m ≠ 8 * q + r → h m = g m) : byteOf h q = byteOf g q + 2 ^ r := by
  unfold byteOf
  match r, hr with
  | 0, _ => rw [Nat.add_zero] at hg hh ho; rw [hh, hg, ho (8 * q + 1) (by omega), ho (8 * q + 2) (by omega), ho (8 * q + 3) (by omega), ho (8 * q + 4) (by omega), ho (8 * q + 5) (by omega), ho (8 * q + 6) (by omega), ho (8 * q + 7) (by omega), bitV_t, bitV_f]; omega
  | 1, _ => rw [hh, hg, ho (8 * q) (by omega), ho (8 * q + 2) (by omega), ho (8 * q + 3) (by omega), ho (8 * q + 4) (by omega), ho (8 * q + 5) (by omega), ho (8 * q + 6) (by omega), ho (8 * q + 7) (by omega), bitV_t, bitV_f]; omega
  | 2, _ => rw [hh, hg, ho (8 * q) (by omega), ho (8 * q + 1) (by omega), ho (8 * q + 3) (by omega), ho (8 * q + 4) (by omega), ho (8 * q + 5) (by omega), ho (8 * q + 6) (by omega), ho (8 * q + 7) (by omega), bitV_t, bitV_f]; omega
  | 3, _ => rw [hh, hg, ho (8 * q) (by omega), ho (8 * q + 1) (by omega), ho (8 * q + 2) (by omega), ho (8 * q + 4) (by omega), ho (8 * q + 5) (by omega), ho (8 * q + 6) (by omega), ho (8 * q + 7) (by omega), bitV_t, bitV_f]; omega
  | 4, _ => rw [hh, hg, ho (8 * q) (by omega), ho (8 * q + 1) (by omega), ho (8 * q + 2) (by omega), ho (8 * q + 3) (by omega), ho (8 * q + 5) (by omega), ho (8 * q + 6) (by omega), ho (8 * q + 7) (by omega), bitV_t, bitV_f]; omega
  | 5, _ => rw [hh, hg, ho (8 * q) (by omega), ho (8 * q + 1) (by omega), ho (8 * q + 2) (by omega), ho (8 * q + 3) (by omega), ho (8 * q + 4) (by omega), ho (8 * q + 6) (by omega), ho (8 * q + 7) (by omega), bitV_t, bitV_f]; omega
  | 6, _ => rw [hh, hg, ho (8 * q) (by omega), ho (8 * q + 1) (by omega), ho (8 * q + 2) (by omega), ho (8 * q + 3) (by omega), ho (8 * q + 4) (by omega), ho (8 * q + 5) (by omega), ho (8 * q + 7) (by omega), bitV_t, bitV_f]; omega
  | 7, _ => rw [hh, hg, ho (8 * q) (by omega), ho (8 * q + 1) (by omega), ho (8 * q + 2) (by omega), ho (8 * q + 3) (by omega), ho (8 * q + 4) (by omega), ho (8 * q + 5) (by omega), ho (8 * q + 6) (by omega), bitV_t, bitV_f]; omega
theorem byte_same {g h : Nat → Bool} {i : Nat} (ho : ∀ k, k < 8 → h (8 * i + k) = g (8 * i + k)) : byteOf h i = byteOf g i := by
  unfold byteOf
  have h0 := ho 0 (by decide)
  rw [Nat.add_zero] at h0
  rw [h0, ho 1 (by decide), ho 2 (by decide), ho 3 (by decide), ho 4 (by decide), ho 5 (by decide), ho 6 (by decide), ho 7 (by decide)]
theorem map_up {f : Nat → Bool} {n q r : Nat} (hr : r < 8) (hq : q < 60) (hn : n = 8 * q + r) (hf : f n = true) : (ofFlags (below f n)).set q ((ofFlags (below f n)).getD q 0 + 2 ^ r) = ofFlags (below f (n + 1)) := by
  rw [ofFlags_get _ hq]
  refine List.ext_getElem (by rw [List.length_set, ofFlags_length, ofFlags_length]) (fun i h1 h2 => ?_)
  rw [ofFlags_length] at h2
  have e : ∀ {g : Nat → Bool} (h : i < (ofFlags g).length), (ofFlags g)[i] = byteOf g i := fun {g} h => by
    have := ofFlags_get g h2
    rwa [List.getD_eq_getElem?_getD, List.getElem?_eq_getElem h] at this
  rw [List.getElem_set]
  by_cases hi : q = i
  · rw [if_pos hi, e, ← hi]
    refine (byte_up hr ?_ ?_ (fun m hm => ?_)).symm
    · unfold below; rw [if_neg (by omega)]
    · unfold below; rw [if_pos (by omega), ← hn]; exact hf
    · unfold below
      by_cases h3 : m < n
      · rw [if_pos h3, if_pos (by omega)]
      · rw [if_neg h3, if_neg (by omega)]
  · rw [if_neg hi, e, e]
    refine (byte_same (fun k hk => ?_)).symm
    unfold below
    by_cases h3 : 8 * i + k < n
    · rw [if_pos h3, if_pos (by omega)]
    · rw [if_neg h3, if_neg (by omega)]
theorem map_down {f : Nat → Bool} {n : Nat} (hf : f n = false) : ofFlags (below f n) = ofFlags (below f (n + 1)) := ofFlags_congr (fun m _ => by
  unfold below
  by_cases h3 : m < n
  · rw [if_pos h3, if_pos (by omega)]
  · rw [if_neg h3]
    by_cases h4 : m = n
    · rw [if_pos (by omega), h4, hf]
    · rw [if_neg (by omega)])
theorem map_all (f : Nat → Bool) : ofFlags (below f 480) = ofFlags f := ofFlags_congr (fun m hm => by unfold below; rw [if_pos hm])
theorem map_none (f : Nat → Bool) : ofFlags (below f 0) = List.replicate 60 0 := by
  rw [ofFlags_congr (f := below f 0) (g := fun _ => false) (fun m _ => by unfold below; rw [if_neg (by omega)])]
  decide +kernel
theorem byte_room {f : Nat → Bool} {n q r : Nat} (hr : r < 8) (hq : q < 60) (hn : n = 8 * q + r) (hf : f n = true) : 0 ≤ (ofFlags (below f n)).getD q 0 ∧ (ofFlags (below f n)).getD q 0 + 2 ^ r ≤ 255 := by
  have h1 := map_up hr hq hn hf
  have h2 := ofFlags_bytes (below f n) _ (getD_mem (l := ofFlags (below f n)) (k := q) (by rw [ofFlags_length]; exact hq))
  have h3 := ofFlags_bytes (below f (n + 1)) ((ofFlags (below f n)).getD q 0 + 2 ^ r) (by rw [← h1]; exact List.mem_set (by rw [ofFlags_length]; exact hq) _)
  exact ⟨h2.1, h3.2⟩

set_option maxRecDepth 100000 in
set_option maxHeartbeats 1600000 in
theorem Map05_any {w : World} {ao : Option Addr} {c : Nat} {f : Nat → Bool} (hV : Vals w ao 480 (boolsV f 480)) :
    Calls Tryz.prog 104 #[.slice ao 480 c] w (Gives w.heap.size w (ofFlags f)) := by
  have hmk := run_make_bytes w 60 (by decide)
  rw [show ((60 : Nat) : Int) = 60 from rfl] at hmk
  obtain ⟨b, off, rfl, hcells⟩ := hV.2.2.resolve_left (by decide)
  have HV : Hid (∀ W, Below w.heap.size w W → ∀ j, j < 480 → W.cell? ⟨b, off + j, none⟩ = some (.bool (f j))) := Lib.hid (fun W hW j hj => cell_later hW (hcells j _ (boolsV_at f hj)))
  have HO0 := Lib.hid (made_own w 60)
  obtain ⟨g, hg⟩ : ∃ g, w.heap.size = g := ⟨_, rfl⟩
  have HQ := Lib.hid hg
  rw [hg] at hmk HO0
  clear hV hcells
  go_enter Tryz.func104, Tryz.ntmps104
  go_wp2_with fail
  have HJ0 : Hid (Own g w g (ofFlags (below f 0)) (w.alloc (.cells (madeCells #[.int .u8 0] 60) 5))) := Lib.hid (by rw [map_none]; exact HO0.out)
  clear HO0 hmk hg
  go_loopw [4] (fun iv wr => ∃ j : Nat, j ≤ 480 ∧ iv = .int .i64 (j : Int) ∧ Hid (Own g w g (ofFlags (below f j)) wr)) (fun iv _ => 480 - (intOf iv).toNat)
  case atStart => exact ⟨0, Nat.zero_le _, rfl, HJ0⟩
  case round =>
    obtain ⟨j, hj, rfl, HO⟩ := hrel
    clear HJ0
    by_cases hlt : j < 480
    · have hcb := HV.out wr (HQ.out ▸ HO.out.2.2.2.2) j hlt
      cases hfj : f j with
      | false =>
        rw [hfj] at hcb
        have HM := Lib.hid (map_down hfj)
        clear hfj
        go_wp2_with fail
        exact ⟨⟨j + 1, by omega, by go_num, Lib.hid (by rw [← HM.out]; exact HO.out)⟩, by simp [intOf]; omega⟩
      | true =>
        rw [hfj] at hcb
        obtain ⟨q, hq⟩ : ∃ q : Nat, q = j / 8 := ⟨_, rfl⟩
        obtain ⟨r, hr⟩ : ∃ r : Nat, r = j % 8 := ⟨_, rfl⟩
        have hq60 : q < 60 := by omega
        have hr8 : r ≤ 7 := by omega
        have hn : j = 8 * q + r := by omega
        have hm := map_up (by omega) hq60 hn hfj
        have hroom := byte_room (by omega) hq60 hn hfj
        obtain ⟨x, hx⟩ : ∃ x, (ofFlags (below f j)).getD q 0 = x := ⟨_, rfl⟩
        obtain ⟨P, hP⟩ : ∃ P : Int, P = 2 ^ r := ⟨_, rfl⟩
        have cP := power05_any r wr.drew hr8
        rw [← hP] at cP hm hroom
        rw [hx] at hm hroom
        have hp0 : 1 ≤ P := by rw [hP]; exact Int.pow_pos (by decide)
        have HM := Lib.hid hm
        have hcell : wr.drew.cell? ⟨g, q, none⟩ = some (.int .u8 x) := by
          have h := HO.out.2.1 q (by rw [ofFlags_length]; exact hq60)
          rw [hx] at h
          exact h
        have hfz : wr.drew.frozen? ⟨g, q, none⟩ = false := HO.out.2.2.1 q
        have d1 : IntKind.i64.wrap ((j : Int) / 8) = (q : Int) := by rw [IntWalk.i64_in _ (by omega)]; omega
        have d2 : Int.tmod (j : Int) 8 = (r : Int) := by rw [Int.tmod_eq_emod_of_nonneg (by omega)]; omega
        obtain ⟨y, hy⟩ : ∃ y, x + P = y := ⟨_, rfl⟩
        have d3 : IntKind.u8.wrap (x + P) = y := by rw [IntWalk.u8_in _ (by omega)]; exact hy
        have hq0 : (0 : Int) ≤ (q : Int) := by omega
        have hq6 : (q : Int) < 60 := by omega
        have HY : Hid (0 ≤ y ∧ y ≤ 255 ∧ x + P = y) := Lib.hid (by omega)
        clear hq hr hn hm hroom hP hx hp0 hy hfj
        go_wp2_with fail
        go_region_law (go_simp; go_at_call 117; refine cP.mono ?_; rintro e w' ⟨rfl, rfl⟩)
        all_goals
          clear d1 d2 d3
          go_wp2_with fail
          exact ⟨⟨j + 1, by omega, by go_num, Lib.hid (by rw [← HM.out, HY.out.2.2]; exact (HO.out.store (by rw [ofFlags_length]; exact hq60) ⟨HY.out.1, HY.out.2.1⟩).drew)⟩, by simp [intOf]; omega⟩
    · have hjj : j = 480 := by omega
      subst hjj
      go_wp2_with fail
      go_ret
      have ho := HO.out
      rw [map_all] at ho
      have hf := ho.fresh (cap := 60) (by rw [ofFlags_length]; decide) (by rw [ofFlags_length]; decide)
      rw [ofFlags_length] at hf
      rw [HQ.out]
      exact ⟨_, rfl, hf, ho.2.2.2.2⟩

/-- Flags, set ahead of n where h says so. -/
def mixF (f h : Nat → Bool) (n m : Nat) : Bool := if m < n ∧ h m = true then true else f m
theorem mix_zero (f h : Nat → Bool) : boolsV (mixF f h 0) 480 = boolsV f 480 := boolsV_congr (fun n _ => by unfold mixF; rw [if_neg (fun e => by omega)])
theorem mix_no {f h : Nat → Bool} {n : Nat} (hh : h n = false) : boolsV (mixF f h n) 480 = boolsV (mixF f h (n + 1)) 480 := boolsV_congr (fun m _ => by
  unfold mixF
  by_cases e : m < n ∧ h m = true
  · rw [if_pos e, if_pos ⟨by omega, e.2⟩]
  · rw [if_neg e, if_neg (fun e2 => e ⟨by
      have : m ≠ n := fun e3 => by rw [e3, hh] at e2; cases e2.2
      omega, e2.2⟩)])
theorem mix_yes {f h : Nat → Bool} {n : Nat} (hn : n < 480) (hh : h n = true) : (boolsV (mixF f h n) 480).set n (.bool true) = boolsV (mixF f h (n + 1)) 480 := by
  rw [boolsV_set _ hn]
  refine boolsV_congr (fun m _ => ?_)
  unfold mixF
  by_cases e3 : m = n
  · rw [if_pos e3, if_pos ⟨by omega, by rw [e3]; exact hh⟩]
  · rw [if_neg e3]
    by_cases e : m < n ∧ h m = true
    · rw [if_pos e, if_pos ⟨by omega, e.2⟩]
    · rw [if_neg e, if_neg (fun e2 => e ⟨by omega, e2.2⟩)]
theorem mix_mark (zs : List Int) (a b : Nat) : ofFlags (mixF (flag zs) (oneF a (a + b)) 480) = markP zs true [(a, b)] := by
  unfold markP
  refine ofFlags_congr (fun m hm => ?_)
  have e : inRuns [(a, b)] m = oneF a (a + b) m := by unfold inRuns oneF; simp
  unfold mixF markF
  rw [e]
  by_cases h : oneF a (a + b) m = true
  · rw [if_pos ⟨hm, h⟩, if_pos h]
  · rw [if_neg (fun e => h e.2), if_neg h]

set_option maxRecDepth 100000 in
set_option maxHeartbeats 1600000 in
theorem Mark05_one {w : World} {ao : Option Addr} {c g o c2 x y a b : Nat} {zs : List Int} (hA : Arg w ao 60 c zs) (hc : w.cell? ⟨g, o, none⟩ = some (.complex .f64 x y)) (hx : FI x a) (hy : FI y b) (hb : 1 ≤ b) (hab : a + b ≤ 480) :
    Calls Tryz.prog 54 #[.slice ao 60 c, .bool true, .slice (some ⟨g, o, none⟩) 1 c2] w fun e w' => ∃ v, e = .returned (.tuple #[v, .int .i64 0]) ∧ Fresh w' w.heap.size v (markP zs true [(a, b)]) ∧ Below w.heap.size w w' := by
  have cB := Blocks02_one (c := c2) hc hx hy hb hab
  have HU : Hid (∀ W, Below w.heap.size w W → Calls Tryz.prog 67 #[.slice ao 60 c] W (GivesV W.heap.size W (boolsV (flag zs) 480))) := Lib.hid (fun W hW => Up05_any ao c zs W (hA.1.later hW))
  clear hA hc hx hy
  go_enter Tryz.func54, Tryz.ntmps54
  go_wp2_with (first
    | (go_at_call 103; refine cB.mono ?_; rintro e w1 ⟨v1, rfl, hf1, hb1⟩; obtain ⟨g1, c1, rfl, _, ho1⟩ := ownV_of_fresh hf1 hb1 (by rw [ne_eq, ← List.length_eq_zero_iff, boolsV_length]; decide); rw [boolsV_length]; have HO1 := Lib.hid ho1; clear hf1 hb1 ho1 cB)
    | (go_at_call 67; refine (HU.out _ HO1.out.2.2.2).mono ?_; rintro e w2 ⟨v2, rfl, hf2, hb2⟩; obtain ⟨g2, c2', rfl, _, ho2⟩ := ownV_of_fresh hf2 hb2 (by rw [ne_eq, ← List.length_eq_zero_iff, boolsV_length]; decide); rw [boolsV_length]; have HO2 := Lib.hid ho2; clear hf2 hb2 ho2 HU))
  have HJ0 : Hid (OwnV w1.heap.size w1 g2 (boolsV (mixF (flag zs) (oneF a (a + b)) 0) 480) w2) := Lib.hid (by rw [mix_zero]; exact HO2.out)
  clear HO2
  go_loopw [11] (fun iv wr => ∃ j : Nat, j ≤ 480 ∧ iv = .int .i64 (j : Int) ∧ Hid (OwnV w1.heap.size w1 g2 (boolsV (mixF (flag zs) (oneF a (a + b)) j) 480) wr)) (fun iv _ => 480 - (intOf iv).toNat)
  case atStart => exact ⟨0, Nat.zero_le _, rfl, HJ0⟩
  case round =>
    obtain ⟨j, hj, rfl, HO⟩ := hrel
    clear HJ0
    by_cases hlt : j < 480
    · have hcb : wr.cell? ⟨g1, j, none⟩ = some (.bool (oneF a (a + b) j)) := cell_later HO.out.2.2.2 (HO1.out.1 j _ (boolsV_at _ hlt))
      cases hfj : oneF a (a + b) j with
      | false =>
        rw [hfj] at hcb
        have HM := Lib.hid (mix_no (f := flag zs) hfj)
        clear hfj
        go_wp2_with fail
        exact ⟨⟨j + 1, by omega, by go_num, Lib.hid (by rw [← HM.out]; exact HO.out)⟩, by simp [intOf]; omega⟩
      | true =>
        rw [hfj] at hcb
        have HM := Lib.hid (mix_yes (f := flag zs) hlt hfj)
        have hce := HO.out.1 j _ (boolsV_at _ hlt)
        have hfz := HO.out.2.1 j
        clear hfj
        go_wp2_with fail
        exact ⟨⟨j + 1, by omega, by go_num, Lib.hid (by rw [← HM.out]; exact HO.out.store (by rw [boolsV_length]; exact hlt))⟩, by simp [intOf]; omega⟩
    · have hjj : j = 480 := by omega
      subst hjj
      have HV := Lib.hid (HO.out.vals (by rw [boolsV_length]; decide))
      rw [boolsV_length] at HV
      go_wp2_with (go_at_call 104; refine (Map05_any HV.out).mono ?_; rintro e w3 ⟨v3, rfl, hf3, hb3⟩; have HF := Lib.hid hf3; have HB3 := Lib.hid hb3; clear hf3 hb3)
      go_ret2
      have h1 := HO1.out.2.2.2
      have h2 := h1.trans (HO.out.2.2.2.mono h1.size)
      have hf := HF.out
      rw [mix_mark] at hf
      obtain ⟨ao3, cap3, hv3, hA3, hn3⟩ := hf
      exact ⟨_, rfl, ⟨ao3, cap3, hv3, hA3, hn3.imp_right (fun ⟨g3, o3, e3, h3, h4⟩ => ⟨g3, o3, e3, Nat.le_trans h2.size h3, h4⟩)⟩, h2.trans (HB3.out.mono h2.size)⟩
end Go.Proofs.YtmcblhgpcgnaoaaGreatDoor

