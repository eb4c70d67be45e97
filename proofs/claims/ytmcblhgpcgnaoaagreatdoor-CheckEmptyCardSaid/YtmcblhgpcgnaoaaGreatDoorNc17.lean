/-
  Proved here: lists of blocks of a call's own, and what 'append' does to them. The conditions stand at each theorem. Proved here: what the landed image's Super and Blocks answer; slices.Clone of bytes. The conditions stand at each theorem. Proved here: what the document's own Same of layer 17 answers. The conditions stand at each theorem. Proved here: plain facts on an empty volume's blocks: each row of them, and that rows set one by one are these. No conditions but those that each theorem names. Nothing of the program is read here. Proved here: what the landed image answers of an empty volume. The conditions stand at each theorem. Proved here: what the landed check's walker answers where there is nothing to walk: a list without numbers, a directory without blocks; whether job and format fit. The conditions stand at each theorem. Proved here: where the landed check's walker lies (WAt), what keeps it and what turns it; a new one. The conditions stand at each theorem. Proved here: what the landed check's walker reads of an image whose nodes have no pointers. The conditions stand at each theorem. Proved here: what the landed check's walker finds where it has read an image without pointers: names, nodes, flags. The conditions stand at each theorem. Proved here: plain facts on an empty volume's nodes and flags. No conditions but those that each theorem names. Nothing of the program is read here. Proved here: what the landed check's walker says of the nodes and the flags of an empty volume. The conditions stand at each theorem.
-/
import Derived.Test.YtmcblhgpcgnaoaaGreatDoorNc0
import Derived.Test.YtmcblhgpcgnaoaaGreatDoorNc10
import Derived.Test.YtmcblhgpcgnaoaaGreatDoorNc14
import Derived.Test.YtmcblhgpcgnaoaaGreatDoorNc16
import Derived.Test.YtmcblhgpcgnaoaaGreatDoorNc5
import Derived.Stop.BytesEq
import Derived.Test.YtmcblhgpcgnaoaaGreatDoorNc1
import Derived.Laws.Tables
import Derived.Test.YtmcblhgpcgnaoaaGreatDoorNc8
import Derived.Test.YtmcblhgpcgnaoaaGreatDoorNc12
namespace Go.Proofs.YtmcblhgpcgnaoaaGreatDoor
open Go.RowKit
set_option linter.unusedVariables false
set_option linter.unusedSimpArgs false

theorem elemBs : ElemR 28 62 (.slice none 0 0) 1 24 := ⟨Tryz.underlying28, by kernel_rfl, rfl, by decide, by decide⟩

/-- A list of blocks of 64 bytes, each text apart from the row. -/
def BOwn (base lo : Nat) (w : World) (v : Value) (bs : List (List Int)) : Prop :=
  ∃ xs, w.ownsRow base 62 1 v bs.length xs ∧ ∀ (j : Nat) (zs : List Int), bs[j]? = some zs → ∃ db off cap, xs[j]? = some (.slice (some ⟨db, off, none⟩) 64 cap) ∧ (lo ≤ db ∧ db < w.heap.size) ∧ v.ownBlock ≠ some db ∧ Arg w (some ⟨db, off, none⟩) 64 cap zs

theorem BOwn.later {base lo : Nat} {w w' : World} {v : Value} {bs : List (List Int)} (h : BOwn base lo w v bs) (hb : Below w.heap.size w w') : BOwn base lo w' v bs := by
  obtain ⟨xs, ho, hx⟩ := h
  refine ⟨xs, owns_later_r ho hb, fun j zs hj => ?_⟩
  obtain ⟨d, o, c, c1, c2, c3, c4⟩ := hx j zs hj
  have := hb.size
  exact ⟨d, o, c, c1, ⟨c2.1, by omega⟩, c3, c4.later hb⟩

theorem BOwn.snoc {base lo : Nat} {wr wx w4 : World} {v v' : Value} {bs : List (List Int)} {zs : List Int} {xs : List Value} {db off cap : Nat} {ob : Obj}
    (h1 : wr.ownsRow base 62 1 v bs.length xs) (h2 : ∀ (j : Nat) (zs : List Int), bs[j]? = some zs → ∃ db off cap, xs[j]? = some (.slice (some ⟨db, off, none⟩) 64 cap) ∧ (lo ≤ db ∧ db < wr.heap.size) ∧ v.ownBlock ≠ some db ∧ Arg wr (some ⟨db, off, none⟩) 64 cap zs)
    (hb : Below wr.heap.size wr wx) (hd : lo ≤ db ∧ db < wx.heap.size) (hne : v.ownBlock ≠ some db) (hA : Arg wx (some ⟨db, off, none⟩) 64 cap zs)
    (hown : w4.ownsRow base 62 1 v' (bs.length + 1) (xs ++ [.slice (some ⟨db, off, none⟩) 64 cap])) (hg : (wx.alloc ob).grownBy w4 v.ownBlock) (hv : v'.ownBlock = v.ownBlock ∨ v'.ownBlock = some (wx.alloc ob).heap.size) : BOwn base lo w4 v' (bs ++ [zs]) := by
  have hxl : xs.length = bs.length := by have := h1.1; omega
  have hsz : wr.heap.size ≤ wx.heap.size := hb.size
  have hsz4 : (wx.alloc ob).heap.size ≤ w4.heap.size := hg.size
  rw [World.size_alloc] at hsz4
  have hal : ∀ {d o l c : Nat} {y : List Int}, Arg wx (some ⟨d, o, none⟩) l c y → Arg (wx.alloc ob) (some ⟨d, o, none⟩) l c y := fun h => h.later ((Below.refl _ _).alloc (Nat.le_refl _) _)
  have hnew : ∀ k, k < wx.heap.size → v.ownBlock ≠ some k → v'.ownBlock ≠ some k := fun k hk hn => by
    rcases hv with e | e
    · rw [e]; exact hn
    · rw [e, World.size_alloc]
      intro h
      simp at h
      omega
  refine ⟨_, by rw [List.length_append]; exact hown, fun j ys hj => ?_⟩
  by_cases hjl : j < bs.length
  · rw [List.getElem?_append_left hjl] at hj
    obtain ⟨d, o, c, c1, c2, c3, c4⟩ := h2 j ys hj
    exact ⟨d, o, c, by rw [List.getElem?_append_left (by omega)]; exact c1, ⟨c2.1, by omega⟩, hnew d (by omega) c3, arg_grown (hal (c4.later hb)) hg c3⟩
  · have hj0 : j = bs.length := by
      have := (List.getElem?_eq_some_iff.1 hj).1
      simp at this
      omega
    subst hj0
    rw [List.getElem?_append_right (Nat.le_refl _), Nat.sub_self] at hj
    simp at hj
    subst hj
    exact ⟨db, off, cap, by rw [List.getElem?_append_right (by omega), hxl, Nat.sub_self]; rfl, ⟨hd.1, by omega⟩, hnew db hd.2 hne, arg_grown (hal hA) hg hne⟩

/-- One block, behind a composite literal. -/
theorem BOwn.one {lo : Nat} {w : World} {zs : List Int} {db off cap : Nat} (hd : lo ≤ db ∧ db < w.heap.size) (hA : Arg w (some ⟨db, off, none⟩) 64 cap zs) :
    BOwn w.heap.size lo (w.alloc (.cells #[.slice (some ⟨db, off, none⟩) 64 cap] 62)) (.slice (some ⟨w.heap.size, 0, none⟩) 1 1) [zs] := by
  have ho : (w.alloc (.cells #[.slice (some ⟨db, off, none⟩) 64 cap] 62)).ownsRow w.heap.size 62 1 (.slice (some ⟨w.heap.size, 0, none⟩) 1 1) 1 [.slice (some ⟨db, off, none⟩) 64 cap] :=
    ⟨rfl, Or.inr ⟨w.heap.size, 1, _, rfl, Nat.le_refl _, heap_alloc_new w _, Nat.le_refl _, by decide, rfl, rfl⟩⟩
  refine ⟨_, ho, fun j ys hj => ?_⟩
  match j, hj with
  | 0, hj =>
    cases hj
    refine ⟨db, off, cap, rfl, ⟨hd.1, by simp; omega⟩, ?_, hA.later ((Below.refl _ _).alloc (Nat.le_refl _) _)⟩
    intro h
    simp [Value.ownBlock] at h
    omega
  | j + 1, hj => simp at hj

theorem BOwn.form {base lo : Nat} {w : World} {v : Value} {bs : List (List Int)} (h : BOwn base lo w v bs) (hn : 0 < bs.length) : ∃ g cap, v = .slice (some ⟨g, 0, none⟩) bs.length cap ∧ bs.length ≤ cap ∧ (base ≤ g ∧ g < w.heap.size) ∧ (∀ j, w.frozen? ⟨g, j, none⟩ = false) ∧
    ∀ (j : Nat) (zs : List Int), bs[j]? = some zs → ∃ db off c, w.cell? ⟨g, j, none⟩ = some (.slice (some ⟨db, off, none⟩) 64 c) ∧ (lo ≤ db ∧ db ≠ g) ∧ Arg w (some ⟨db, off, none⟩) 64 c zs := by
  obtain ⟨xs, ho, hx⟩ := h
  rcases ho.2 with ⟨_, h0⟩ | ⟨g, cap, cur, hv, hb, hh, hc, _⟩
  · omega
  · have hlt := ho.lt g (by rw [hv]; rfl)
    rw [hv] at ho
    refine ⟨g, cap, hv, hc, hlt, fun j => ho.frozenAt j, fun j zs hj => ?_⟩
    obtain ⟨d, o, c, c1, c2, c3, c4⟩ := hx j zs hj
    have e := ho.cells (g := g) rfl _ _ c1
    rw [Go.WideShapes.add_plain, Nat.zero_add] at e
    exact ⟨d, o, c, e, ⟨c2.1, fun e => c3 (by rw [hv, e]; rfl)⟩, c4⟩

theorem arg_lt {w : World} {db off cap : Nat} {zs : List Int} (h : Arg w (some ⟨db, off, none⟩) 64 cap zs) : db < w.heap.size := by
  obtain ⟨b', o', he, hc⟩ := h.1.2.2.2.resolve_left (by decide)
  simp only [Option.some.injEq, Addr.mk.injEq, and_true] at he
  obtain ⟨rfl, rfl⟩ := he
  exact World.block_lt_of_cell? _ _ (hc 0 (by decide))

/-- The rows of a list of blocks, to be read; from a place on. -/
theorem BOwn.rows {base lo : Nat} {w : World} {v : Value} {bs : List (List Int)} (h : BOwn base lo w v bs) (hn : 0 < bs.length) : ∃ g cap, v = .slice (some ⟨g, 0, none⟩) bs.length cap ∧ bs.length ≤ cap ∧ (base ≤ g ∧ g < w.heap.size) ∧ ∀ k m, k + m ≤ bs.length → RowsIn w (some ⟨g, k, none⟩) m (cap - k) ((bs.drop k).take m) := by
  obtain ⟨g, cap, hv, hc, hg, _, hx⟩ := h.form hn
  refine ⟨g, cap, hv, hc, hg, fun k m hkm => ⟨by rw [List.length_take, List.length_drop]; omega, by omega, Or.inr ⟨g, k, rfl, fun j hj => ?_⟩⟩⟩
  obtain ⟨d, o, c, c1, _, c3⟩ := hx (k + j) (bs[k + j]'(by omega)) (List.getElem?_eq_getElem (by omega))
  refine ⟨_, 64, c, c1, ?_, c3.2.2.1⟩
  have e : ((bs.drop k).take m).getD j [] = bs[k + j]'(by omega) := by
    rw [List.getD_eq_getElem?_getD, List.getElem?_take, if_pos hj, List.getElem?_drop, List.getElem?_eq_getElem (by omega)]; rfl
  rw [e]
  exact c3.1

end Go.Proofs.YtmcblhgpcgnaoaaGreatDoor


namespace Go.Proofs.YtmcblhgpcgnaoaaGreatDoor
open Go.RowKit
set_option linter.unusedVariables false
set_option linter.unusedSimpArgs false

set_option maxRecDepth 100000 in
theorem clone8_any (ad : Addr) (len cap : Nat) (zs : List Int) (w : World) (hA : Arg w (some ad) len cap zs) :
    Calls Tryz.prog 52 #[.slice (some ad) len cap] w (Gives w.heap.size w zs) := by
  obtain ⟨hB, hnil, _, hlen⟩ := hA
  have hown := World.ownsRow_made (base := w.heap.size) (e := 5) (size := 1) w #[] 0 (Nat.le_refl _) (by decide) rfl
  have hb0 : Below w.heap.size w (w.alloc (.cells #[] 5)) := (Below.refl _ _).alloc (Nat.le_refl _) _
  have hA0 := hB.later hb0
  have HZ := Lib.hid hB.2.2.1
  have hnil := fun (w : World) => Lib.run_eql_slice_nil (P := Tryz.prog) w 62 5 (some ad) len cap 0 0 Tryz.underlying62
  clear hB
  go_enter Tryz.func52, Tryz.ntmps52
  go_wp2_with (at_builtin; refine wp_append_bytes rfl (.tmp 5) (.tmp 6) rfl w.heap.size 0 _ [] rfl hown (some ad) len cap zs rfl hA0 (by simp) (by omega) (by simp) ?_; intro v1 w1 hown1 hb1; have HB1 := Lib.hid (hb0.trans hb1); have HO1 := Lib.hid hown1; clear hown1 hb1 hown hA0)
  go_ret
  have h := HO1.out
  rw [Nat.zero_add, List.nil_append] at h
  exact ⟨_, rfl, fresh_of_owns h HZ.out hlen, HB1.out⟩

theorem bts_range {w : World} {b off : Nat} {zs : List Int} (h : w.rangeAt b off (bys zs)) (hl : zs.length = 64) (hz : ∀ z ∈ zs, 0 ≤ z ∧ z ≤ 255) : Arg w (some ⟨b, off, none⟩) 64 64 zs :=
  ⟨⟨hl, by decide, hz, Or.inr ⟨b, off, rfl, fun j hj => h j _ (bys_at (by omega))⟩⟩, by simp, by decide, by decide⟩

set_option maxRecDepth 100000 in
set_option maxHeartbeats 1600000 in
theorem isuper_any {w : World} {a : Addr} {F : Nat → Prop} {I : Img} (h : ImgI w a F I) (hV : VolOk I.bl) :
    Calls Tryz.prog 16 #[.pointer (some a)] w fun e w' => e = .returned (supAt I.bl).val ∧ Below w.heap.size w w' := by
  obtain ⟨p, gb, gl, gs, cb, cl, cs, rfl, h, rfl⟩ := h
  obtain ⟨x0, x1, x2, x3, x4, hX⟩ : ∃ x0 x1 x2 x3 x4, supAt I.bl = ⟨x0, x1, x2, x3, x4⟩ := ⟨_, _, _, _, _, rfl⟩
  have h64 := hV.n64
  have HN : Hid (∀ W, Below w.heap.size w W → Calls Tryz.prog 51 #[.pointer (some ⟨p, 0, none⟩)] W fun e w' => e = .returned (.bool false) ∧ W = w') := Lib.hid (fun W hW => none_of (by rw [hW.cell (p := ⟨p, 0, none⟩) h.lt.1]; exact h.c0) h.n0.1)
  have HS : Hid (∀ W, Below w.heap.size w W → Calls Tryz.prog 58 #[.pointer (some ⟨p, 0, none⟩)] W fun e w' => e = .returned (.agg #[.int .i64 x0, .int .i64 x1, .int .i64 x2, .int .i64 x3, .int .i64 x4]) ∧ Below W.heap.size W w') := Lib.hid (fun W hW => by
    have c := super_any (by rw [hW.cell (p := ⟨p, 0, none⟩) h.lt.1]; exact h.c0) (h.rb.later h.n0.1 hW) rfl (by omega) hV.sup
    rw [hX] at c
    exact c)
  rw [hX]
  unfold PSup.val
  clear h hV h64 hX
  go_enter Tryz.func16, Tryz.ntmps16
  go_wp2_with (first
    | (go_at_call 51; refine (HN.out _ ((Below.refl _ _).alloc (Nat.le_refl _) _)).mono ?_; rintro e w2 ⟨rfl, rfl⟩)
    | (go_at_call 58; refine (HS.out _ ((Below.refl _ _).alloc (Nat.le_refl _) _)).mono ?_; rintro e w3 ⟨rfl, hb3⟩; have HB3 := Lib.hid hb3; clear hb3)
    | (refine wpList_store_mid rfl 32 (.tmp 2) (.tmp 9) rfl w.heap.size 0 #[.int .i64 x0, .int .i64 x1, .int .i64 x2, .int .i64 x3, .int .i64 x4] rfl rfl (there_newC HB3.out rfl) (by kernel_rfl) (one_sup _ _ _ _ _) ?_))
  refine bodyPost_ret (v := .agg #[.int .i64 x0, .int .i64 x1, .int .i64 x2, .int .i64 x3, .int .i64 x4]) ?_ rfl ⟨rfl, below_cells _ (Nat.le_refl _) _ _ _ (below_new HB3.out)⟩
  rw [results_p1 rfl _ rfl]
  exact load_sup (s := ⟨x0, x1, x2, x3, x4⟩) (World.rangeAt_setCells_same _ _ _ _ (there_newC HB3.out rfl))

set_option maxRecDepth 100000 in
set_option maxHeartbeats 3200000 in
theorem iblocks_any {w : World} {a : Addr} {F : Nat → Prop} {I : Img} (h : ImgI w a F I) :
    Calls Tryz.prog 14 #[.pointer (some a)] w fun e w' => ∃ v, e = .returned v ∧ BOwn w.heap.size w.heap.size w' v I.bl ∧ Below w.heap.size w w' := by
  obtain ⟨p, gb, gl, gs, cb, cl, cs, rfl, h, rfl⟩ := h
  have hp := h.lt.1
  have hgb := h.lt.2.1
  have hcell : ∀ W, Below w.heap.size w W → W.cell? ⟨p, 0, none⟩ = some (.slice (some ⟨gb, 0, none⟩) I.bl.length cb) := fun W hW => by rw [hW.cell (p := ⟨p, 0, none⟩) hp]; exact h.c0
  have HRW : Hid (∀ W, Below w.heap.size w W → Rw W gb I.bl) := Lib.hid (fun W hW => h.rb.later h.n0.1 hW)
  have HN := Lib.hid (none_of h.c0 h.n0.1)
  have c0 := h.c0
  have h480 := h.n0.2
  have hcb := h.kb
  obtain ⟨L, hL⟩ : ∃ L, I.bl = L := ⟨_, rfl⟩
  obtain ⟨n, hn⟩ : ∃ n, L.length = n := ⟨_, rfl⟩
  rw [hL] at c0 h480 HRW hcb ⊢
  rw [hn] at c0 h480 hcb
  have HLN := Lib.hid hn
  clear h hL hcell hn
  go_enter Tryz.func14, Tryz.ntmps14
  go_wp2_with (go_at_call 51; refine HN.out.mono ?_; rintro e w2 ⟨rfl, rfl⟩)
  have HJ0 : Hid (BOwn w.heap.size w.heap.size w (.slice none 0 0) (L.take 0) ∧ Below w.heap.size w w) := Lib.hid ⟨⟨[], owns_nil_r _ _ _ _, fun j zs hj => by simp at hj⟩, Below.refl _ _⟩
  clear HN c0
  go_loopw [3, 14] (fun vv iv wr => ∃ i : Nat, i ≤ n ∧ iv = .int .i64 i ∧ Hid (BOwn w.heap.size w.heap.size wr vv (L.take i) ∧ Below w.heap.size w wr)) (fun _ iv _ => n - (intOf iv).toNat)
  case atStart => exact ⟨0, Nat.zero_le _, rfl, HJ0⟩
  case round =>
    obtain ⟨i, hi, rfl, HJ⟩ := hrel
    clear HJ0
    by_cases hlt : i < n
    · have i2 : (i : Int) < n := by omega
      have hiL : i < L.length := by rw [HLN.out]; exact hlt
      obtain ⟨R, hR⟩ : ∃ R, L.getD i [] = R := ⟨_, rfl⟩
      have HR : Hid (wr.rangeAt gb (i * 64) (bys R) ∧ R.length = 64 ∧ (∀ z ∈ R, 0 ≤ z ∧ z ≤ 255) ∧ L.take (i + 1) = L.take i ++ [R] ∧ (L.take i).length = i) := Lib.hid (by
        have hr := HRW.out wr HJ.out.2
        have h1 := hr.range hiL
        have h2 := hr.1.at hiL
        rw [hR] at h1 h2
        refine ⟨h1, h2.1, h2.2, ?_, by rw [List.length_take]; omega⟩
        rw [List.take_add_one, ← hR, List.getD_eq_getElem?_getD, List.getElem?_eq_getElem hiL]
        rfl)
      obtain ⟨xs, ho, hxs⟩ := HJ.out.1
      rw [HR.out.2.2.2.2] at ho
      obtain ⟨la, lc, rfl⟩ := owns_shape_r ho
      have HO := Lib.hid (And.intro ho hxs)
      have HW := Lib.hid HJ.out.2
      clear HJ hR hiL ho hxs
      go_wp2_with (first
        | (refine wpList_load_mid rfl 102 (.tmp 16) rfl gb (i * 64) rfl (bys R) _ HR.out.1 ublk rfl (iblk HR.out.2.1) ?_)
        | (refine wp_new_blk rfl rfl (some 5) rfl ?_; intro n1 w1 hn1 hw1; have HO1 := Lib.hid (new_own hn1 hw1); have HN1 := Lib.hid hn1; clear hn1 hw1)
        | (refine wpList_store_mid rfl 102 (.tmp 5) (.tmp 17) rfl n1 0 (bys R).toArray rfl rfl (by rw [List.size_toArray, bys_length, HR.out.2.1]; exact fun j hj => ⟨by rw [Nat.zero_add, HO1.out.2.1 j (by rw [List.length_replicate]; exact hj)]; rfl, HO1.out.2.2.1 _⟩) (iblka HR.out.2.1) (all_oneCell_toArray (bys_one R)) ?_)
        | (go_at_call 52
           have hth : w1.there n1 0 (bys R).length := by rw [bys_length, HR.out.2.1]; exact fun j hj => ⟨by rw [Nat.zero_add, HO1.out.2.1 j (by rw [List.length_replicate]; exact hj)]; rfl, HO1.out.2.2.1 _⟩
           have HB2 : Hid (Below wr.heap.size wr (w1.setCells n1 0 (bys R))) := Lib.hid (below_setCells HO1.out.2.2.2.2 (Nat.le_of_eq HN1.out.symm) _ _)
           refine (clone8_any _ _ _ R _ (bts_range (World.rangeAt_setCells_same _ _ _ _ hth) HR.out.2.1 HR.out.2.2.1)).mono ?_
           rintro e w4 ⟨v4, rfl, hf4, hb4⟩
           obtain ⟨g4, o4, p4, rfl, hA4, hg4⟩ := fresh_slice hf4 (fun e => by have := HR.out.2.1; rw [e] at this; cases this)
           rw [HR.out.2.1] at hA4
           have HA4 := Lib.hid (And.intro hA4 (Nat.le_trans HB2.out.size hg4))
           have HB4 := Lib.hid (HB2.out.trans (hb4.mono HB2.out.size))
           try rw [HR.out.2.1]
           clear hth hf4 hA4 hg4 hb4)
        | (at_builtin; refine wp_append_at elemBs rfl (.tmp 18) (.tmp 21) rfl w.heap.size i (.slice la i lc) xs rfl ?hown ⟨w4.heap.size, 0, none⟩ 1 1 [.slice (some ⟨g4, o4, none⟩) 64 p4] rfl ?hm rfl ?hx ?hone ?hbb ?hbase ?hkk; (case hown => exact owns_later_r HO.out.1 (HB4.out.alloc HB4.out.size _)); (case hm => decide); (case hx => exact news_r w4 [.slice (some ⟨g4, o4, none⟩) 64 p4] _); (case hone => (intro u hu; simp only [List.mem_cons, List.mem_nil_iff, or_false] at hu; rcases hu with rfl; rfl)); (case hbb => omega); (case hbase => (have h1 := HW.out.size; have h2 := HB4.out.size; simp; omega)); intro v8 w8 hown8 hg8 hb8 hv8; have HO8 := Lib.hid (And.intro hown8 (And.intro hg8 hv8)); have HB8 := Lib.hid hb8; clear hown8 hg8 hb8 hv8))
      have hbo := BOwn.snoc (bs := L.take i) (by rw [HR.out.2.2.2.2]; exact HO.out.1) HO.out.2 HB4.out (lo := w.heap.size) ⟨by have h1 := HW.out.size; have h2 := HA4.out.2; omega, arg_lt HA4.out.1⟩ (fun e => by have h1 := (HO.out.1.lt _ e).2; have h2 := HA4.out.2; omega) HA4.out.1 (by rw [HR.out.2.2.2.2]; exact HO8.out.1) HO8.out.2.1 HO8.out.2.2
      rw [← HR.out.2.2.2.1] at hbo
      have b4 := HW.out.trans (HB4.out.mono HW.out.size)
      refine ⟨⟨i + 1, by omega, by go_num, Lib.hid ⟨hbo, (b4.alloc b4.size _).trans HB8.out⟩⟩, by simp [intOf]; omega⟩
    · have hit : i = n := by omega
      subst hit
      have hbo := HJ.out.1
      rw [List.take_of_length_le (by rw [HLN.out]; exact Nat.le_refl _)] at hbo
      have HBO := Lib.hid hbo
      have HW := Lib.hid HJ.out.2
      clear hbo HJ
      go_wp2_with fail
      go_ret
      exact ⟨_, rfl, HBO.out, HW.out⟩
end Go.Proofs.YtmcblhgpcgnaoaaGreatDoor


namespace Go.Proofs.YtmcblhgpcgnaoaaGreatDoor
open Go.RowKit
set_option linter.unusedVariables false
set_option linter.unusedSimpArgs false

theorem rows_ext {X Y : List (List Int)} (hl : X.length = Y.length) (h : ∀ j, j < X.length → X.getD j [] = Y.getD j []) : X = Y := by
  refine List.ext_getElem hl (fun j h1 h2 => ?_)
  have e := h j h1
  rwa [List.getD_eq_getElem?_getD, List.getD_eq_getElem?_getD, List.getElem?_eq_getElem h1, List.getElem?_eq_getElem h2] at e

end Go.Proofs.YtmcblhgpcgnaoaaGreatDoor


namespace Go.Proofs.YtmcblhgpcgnaoaaGreatDoor
set_option linter.unusedVariables false
set_option linter.unusedSimpArgs false

theorem high_withNode (B : List (List Int)) (n j : Nat) (x : PNode) (hj : j ≠ 3 + n / 2) : (withNode B n x).getD j [] = B.getD j [] := by
  unfold withNode
  rw [gets_set, if_neg (fun e => hj e.1.symm)]
theorem high_freeNodes (B : List (List Int)) (j : Nat) (hj : 19 ≤ j) : ∀ n, n ≤ 32 → (freeNodes B n).getD j [] = B.getD j []
  | 0, _ => rfl
  | n + 1, hn => by
    show (withNode (freeNodes B n) n noNode).getD j [] = _
    rw [high_withNode _ _ _ _ (by omega), high_freeNodes B j hj n (by omega)]
theorem emptyP_high {n : Nat} (f : Int) (j : Nat) (hj : 19 ≤ j) : (emptyP n f).getD j [] = (List.replicate n z64).getD j [] := by
  rw [emptyP_is, high_withNode _ _ _ _ (by omega), high_freeNodes _ j hj 32 (by decide)]
  unfold bareP withFlags
  rw [gets_set, if_neg (fun e => by omega), gets_set, if_neg (fun e => by omega)]
  unfold withSuper
  rw [gets_set, if_neg (fun e => by omega)]
theorem halves {R : List Int} (h : R.length = 64) : (R.drop 0).take 32 ++ (R.drop 32).take 32 = R := by
  rw [List.drop_zero, List.take_of_length_le (l := R.drop 32) (by rw [List.length_drop]; omega), List.take_append_drop]
theorem emptyP_mid {n : Nat} {f : Int} (h : 64 ≤ n) (hf : 1 ≤ f ∧ f ≤ 2) (j : Nat) (h3 : 3 ≤ j) (h19 : j < 19) : (emptyP n f).getD j [] = node32 (if j = 3 then rootN f else noNode) ++ node32 noNode := by
  have hl := emptyP_64 f h j (by rw [emptyP_length]; omega)
  have a := half_emptyP h hf (2 * (j - 3)) (by omega)
  have b := half_emptyP h hf (2 * (j - 3) + 1) (by omega)
  rw [if_neg (by omega)] at b
  unfold halfAt at a b
  rw [show 3 + 2 * (j - 3) / 2 = j by omega, show 2 * (j - 3) % 2 = 0 by omega, Nat.zero_mul] at a
  rw [show 3 + (2 * (j - 3) + 1) / 2 = j by omega, show (2 * (j - 3) + 1) % 2 = 1 by omega, Nat.one_mul] at b
  rw [← halves hl, a, b]
  by_cases e : j = 3
  · rw [if_pos e, if_pos (by omega)]
  · rw [if_neg e, if_neg (by omega)]

/-- What Mark of the first 59 blocks hands back. -/
def upE : List Int := markP (List.replicate 60 0) true [(0, 59)]
theorem upE_length : upE.length = 60 := markP_length _ _ _
/-- The blocks of nodes ahead of 3 + m hold two Free nodes each. -/
def setsN (L : List (List Int)) : Nat → List (List Int)
  | 0 => L
  | m + 1 => (setsN L m).set (3 + m) (node32 noNode ++ node32 noNode)
theorem setsN_length (L : List (List Int)) : ∀ m, (setsN L m).length = L.length
  | 0 => rfl
  | m + 1 => by show ((setsN L m).set _ _).length = _; rw [List.length_set, setsN_length L m]
theorem setsN_get (L : List (List Int)) (h : 19 ≤ L.length) : ∀ m, m ≤ 16 → ∀ j, (setsN L m).getD j [] = if 3 ≤ j ∧ j < 3 + m then node32 noNode ++ node32 noNode else L.getD j []
  | 0, _, j => by rw [if_neg (by omega)]; rfl
  | m + 1, hm, j => by
    show ((setsN L m).set (3 + m) _).getD j [] = _
    rw [gets_set, setsN_length]
    by_cases e : 3 + m = j
    · rw [if_pos ⟨e, by omega⟩, if_pos (by omega)]
    · rw [if_neg (fun k => e k.1), setsN_get L h m (by omega) j]
      by_cases e2 : 3 ≤ j ∧ j < 3 + m
      · rw [if_pos e2, if_pos (by omega)]
      · rw [if_neg e2, if_neg (by omega)]
/-- What the document's Empty sets. -/
def rowsE (n : Nat) (f : Int) : List (List Int) := ((((List.replicate n z64).set 0 (supBlock ⟨n, f, 0, 0, 0⟩)).set 1 (headBlock ⟨0, 1⟩)).set 2 (sealOf sumS upE))
theorem rowsE_is {n : Nat} {f : Int} (h : 64 ≤ n) (hf : 1 ≤ f ∧ f ≤ 2) : (setsN (rowsE n f) 16).set 3 (node32 (rootN f) ++ node32 noNode) = emptyP n f := by
  have hl : (rowsE n f).length = n := by
    unfold rowsE
    rw [List.length_set, List.length_set, List.length_set, List.length_replicate]
  have hlow := emptyP_low f h
  refine rows_ext (by rw [List.length_set, setsN_length, hl, emptyP_length]) (fun j hj => ?_)
  rw [List.length_set, setsN_length, hl] at hj
  rw [gets_set, setsN_length, setsN_get _ (by omega) 16 (by decide)]
  by_cases e3 : 3 = j
  · subst e3
    rw [if_pos ⟨rfl, by omega⟩, emptyP_mid h hf 3 (by decide) (by decide), if_pos rfl]
  · rw [if_neg (fun k => e3 k.1)]
    by_cases e : 3 ≤ j ∧ j < 3 + 16
    · rw [if_pos e, emptyP_mid h hf j (by omega) (by omega), if_neg (by omega)]
    · rw [if_neg e]
      by_cases e19 : 19 ≤ j
      · rw [emptyP_high f j e19]
        unfold rowsE
        rw [gets_set, if_neg (fun e => by omega), gets_set, if_neg (fun e => by omega), gets_set, if_neg (fun e => by omega)]
      · have h2 : j = 0 ∨ j = 1 ∨ j = 2 := by omega
        unfold rowsE
        rw [gets_set, gets_set, gets_set]
        simp only [List.length_set, List.length_replicate]
        rcases h2 with rfl | rfl | rfl
        · rw [if_neg (by omega), if_neg (by omega), if_pos ⟨rfl, by omega⟩, hlow.1]
        · rw [if_neg (by omega), if_pos ⟨rfl, by omega⟩, hlow.2.1]
        · rw [if_pos ⟨rfl, by omega⟩, hlow.2.2]
          rfl
end Go.Proofs.YtmcblhgpcgnaoaaGreatDoor


namespace Go.Proofs.YtmcblhgpcgnaoaaGreatDoor
open Go.RowKit
set_option linter.unusedVariables false
set_option linter.unusedSimpArgs false

theorem iblocks_empty {w : World} {a : Addr} {F : Nat → Prop} {n : Nat} {f : Int} {ly st : List (List Int)} (h : ImgI w a F ⟨emptyP n f, ly, st⟩) (h1 : 64 ≤ n) :
    Calls Tryz.prog 14 #[.pointer (some a)] w fun e w' => ∃ ao cap, e = .returned (.slice ao n cap) ∧ RowsIn w' ao n cap (emptyP n f) ∧ Below w.heap.size w w' := by
  have hl := emptyP_length n f
  generalize emptyP n f = B at h hl ⊢
  refine (iblocks_any h).mono ?_
  rintro e w' ⟨v, rfl, ho, hb⟩
  dsimp only at ho
  obtain ⟨g, cap, rfl, hc, hg, hr⟩ := ho.rows (by omega)
  have h0 := hr 0 n (by omega)
  rw [List.drop_zero, List.take_of_length_le (by omega), Nat.sub_zero] at h0
  rw [hl]
  exact ⟨_, _, rfl, h0, hb⟩
end Go.Proofs.YtmcblhgpcgnaoaaGreatDoor


namespace Go.Proofs.YtmcblhgpcgnaoaaGreatDoor
open Go.RowKit
set_option linter.unusedVariables false
set_option linter.unusedSimpArgs false

theorem count_nil {w : World} (v : Value) (ao : Option Addr) (c : Nat) : Calls Tryz.prog 212 #[v, .slice ao 0 c] w fun e w' => e = .returned (.tuple #[]) ∧ w = w' := by
  go_enter Tryz.func212, Tryz.ntmps212
  go_wp2_with fail
  go_loopw [8] (fun kv wr => kv = .int .i64 0 ∧ w = wr) (fun _ _ => 0)
  case atStart => exact ⟨rfl, rfl⟩
  case round =>
    obtain ⟨rfl, rfl⟩ := hrel
    go_wp2_with fail
    go_end0
    exact ⟨rfl, rfl⟩

set_option maxRecDepth 100000 in
theorem job_none {w : World} (n f : Int) (hf : 1 ≤ f ∧ f ≤ 2) : Calls Tryz.prog 153 #[.agg #[.int .i64 n, .int .i64 f, .int .i64 0, .int .i64 0, .int .i64 0]] w fun e w' => e = .returned (.bool true) ∧ Below w.heap.size w w' := by
  have HB : Hid (Below w.heap.size w (w.alloc (.cells #[.int .i64 n, .int .i64 f, .int .i64 0, .int .i64 0, .int .i64 0] 32))) := Lib.hid ((Below.refl _ _).alloc (Nat.le_refl _) _)
  have hne : (f == 3) = false := by simp; omega
  clear hf
  go_enter Tryz.func153, Tryz.ntmps153
  go_wp2_with fail
  go_ret
  exact ⟨rfl, HB.out⟩

set_option maxRecDepth 100000 in
set_option maxHeartbeats 1600000 in
theorem walkDir_empty {w : World} (v x0 x1 x2 x4 x5 x6 x7 x8 x9 x10 x11 x13 : Value) (po : Option Addr) (pc : Nat) :
    Calls Tryz.prog 256 #[v, .agg #[x0, x1, x2, .int .i64 0, x4, x5, x6, x7, x8, x9, x10, x11, .slice po 0 pc, x13]] w fun e w' => e = .returned (.bool true) ∧ Below w.heap.size w w' := by
  have hb : Below w.heap.size w (w.alloc (.cells #[x0, x1, x2, .int .i64 0, x4, x5, x6, x7, x8, x9, x10, x11, .slice po 0 pc, x13] 145)) := (Below.refl _ _).alloc (Nat.le_refl _) _
  have c3 : (w.alloc (.cells #[x0, x1, x2, .int .i64 0, x4, x5, x6, x7, x8, x9, x10, x11, .slice po 0 pc, x13] 145)).cell? ⟨w.heap.size, 3, none⟩ = some (.int .i64 0) := by rw [World.cell?_alloc_new]; rfl
  have c12 : (w.alloc (.cells #[x0, x1, x2, .int .i64 0, x4, x5, x6, x7, x8, x9, x10, x11, .slice po 0 pc, x13] 145)).cell? ⟨w.heap.size, 12, none⟩ = some (.slice po 0 pc) := by rw [World.cell?_alloc_new]; rfl
  have hm := fun (W : World) => run_makeMap (P := Tryz.prog) 349 W
  have d12 : ((w.alloc (.cells #[x0, x1, x2, .int .i64 0, x4, x5, x6, x7, x8, x9, x10, x11, .slice po 0 pc, x13] 145)).alloc (.map #[] 0)).cell? ⟨w.heap.size, 12, none⟩ = some (.slice po 0 pc) := cell_later ((Below.refl _ _).alloc (Nat.le_refl _) _) c12
  have HB := Lib.hid (hb.alloc hb.size (.map #[] 0))
  obtain ⟨q, hq⟩ : ∃ q, (w.alloc (.cells #[x0, x1, x2, .int .i64 0, x4, x5, x6, x7, x8, x9, x10, x11, .slice po 0 pc, x13] 145)).heap.size = q := ⟨_, rfl⟩
  clear hb
  go_enter Tryz.func256, Tryz.ntmps256
  go_wp2_with fail
  obtain ⟨W, hW⟩ : ∃ W, (w.alloc (.cells #[x0, x1, x2, .int .i64 0, x4, x5, x6, x7, x8, x9, x10, x11, .slice po 0 pc, x13] 145)).alloc (.map #[] 0) = W := ⟨_, rfl⟩
  rw [hW] at HB
  try rw [hW]
  go_loopw [26] (fun kv wr => kv = .int .i64 0 ∧ W = wr) (fun _ _ => 0)
  case atStart => exact ⟨rfl, rfl⟩
  case round =>
    obtain ⟨rfl, rfl⟩ := hrel
    clear c3 c12 d12 hm hW hq
    go_wp2_with fail
    go_ret
    exact ⟨rfl, HB.out⟩

set_option maxRecDepth 100000 in
theorem walk_root {w : World} (v x1 x2 x4 x5 x6 x7 x8 x9 x10 x11 x13 : Value) (po : Option Addr) (pc : Nat) :
    Calls Tryz.prog 213 #[v, .agg #[.int .i64 2, x1, x2, .int .i64 0, x4, x5, x6, x7, x8, x9, x10, x11, .slice po 0 pc, x13]] w fun e w' => e = .returned (.bool true) ∧ Below w.heap.size w w' := by
  have HB : Hid (Below w.heap.size w (w.alloc (.cells #[.int .i64 2, x1, x2, .int .i64 0, x4, x5, x6, x7, x8, x9, x10, x11, .slice po 0 pc, x13] 145))) := Lib.hid ((Below.refl _ _).alloc (Nat.le_refl _) _)
  have c0 : (w.alloc (.cells #[.int .i64 2, x1, x2, .int .i64 0, x4, x5, x6, x7, x8, x9, x10, x11, .slice po 0 pc, x13] 145)).cell? ⟨w.heap.size, 0, none⟩ = some (.int .i64 2) := by rw [World.cell?_alloc_new]; rfl
  have HR : Hid ((w.alloc (.cells #[.int .i64 2, x1, x2, .int .i64 0, x4, x5, x6, x7, x8, x9, x10, x11, .slice po 0 pc, x13] 145)).rangeAt w.heap.size 0 [.int .i64 2, x1, x2, .int .i64 0, x4, x5, x6, x7, x8, x9, x10, x11, .slice po 0 pc, x13]) := Lib.hid (fun j u hj => by
    rw [Nat.zero_add, World.cell?_alloc_new]
    simpa using hj)
  go_enter Tryz.func213, Tryz.ntmps213
  go_wp2_with (first
    | (refine wpList_load_mid rfl 145 (.tmp 3) rfl w.heap.size 0 rfl [.int .i64 2, x1, x2, .int .i64 0, x4, x5, x6, x7, x8, x9, x10, x11, .slice po 0 pc, x13] _ HR.out Tryz.underlying145 rfl (by kernel_rfl) ?_)
    | (go_at_call 256; refine (walkDir_empty _ _ _ _ _ _ _ _ _ _ _ _ _ _ _).mono ?_; rintro e w2 ⟨rfl, hb⟩; have HB2 := Lib.hid (HB.out.trans (hb.mono HB.out.size)); clear hb))
  go_ret
  exact ⟨rfl, HB2.out⟩
end Go.Proofs.YtmcblhgpcgnaoaaGreatDoor


namespace Go.Proofs.YtmcblhgpcgnaoaaGreatDoor
open Go.RowKit
set_option linter.unusedVariables false
set_option linter.unusedSimpArgs false

/-- A node, with its pointers and its own blocks, as a walker keeps them. -/
def toldC (x : PNode) (ev pv ov : Value) : List Value := [.int .i64 x.k, .int .i64 x.f, .int .i64 x.l, .int .i64 x.z, .int .i64 x.d0, .int .i64 x.d1, .int .i64 x.d2, .int .i64 x.d3, .int .i64 x.s, .int .i64 x.t, ev, .int .i64 x.c, pv, ov]
/-- A walker in block p: its image, its nodes, how often each is named, how often each block is used. -/
structure WAt (w : World) (p : Nat) (a : Addr) (T : Nat → List Value) (nm us : Nat → Int) : Prop where
  c0 : w.cell? ⟨p, 0, none⟩ = some (.pointer (some a))
  lT : ∀ k, k < 32 → (T k).length = 14
  cT : ∀ k, k < 32 → w.rangeAt p (1 + k * 14) (T k)
  cN : ∀ k, k < 32 → w.cell? ⟨p, 449 + k, none⟩ = some (.int .i64 (nm k))
  cU : ∀ k, k < 480 → w.cell? ⟨p, 481 + k, none⟩ = some (.int .i64 (us k))
  fr : ∀ j, w.frozen? ⟨p, j, none⟩ = false
theorem WAt.lt {w : World} {p : Nat} {a : Addr} {T : Nat → List Value} {nm us : Nat → Int} (h : WAt w p a T nm us) : p < w.heap.size := World.block_lt_of_cell? _ _ h.c0
theorem WAt.kept {w w' : World} {p : Nat} {a : Addr} {T : Nat → List Value} {nm us : Nat → Int} (h : WAt w p a T nm us) (hk : w'.heap[p]? = w.heap[p]?) : WAt w' p a T nm us := by
  have hc : ∀ j, w'.cell? ⟨p, j, none⟩ = w.cell? ⟨p, j, none⟩ := fun j => cell_of_heap (p := ⟨p, j, none⟩) hk
  exact ⟨by rw [hc]; exact h.c0, h.lT, fun k hk j v hv => by rw [hc]; exact h.cT k hk j v hv, fun k hk => by rw [hc]; exact h.cN k hk, fun k hk => by rw [hc]; exact h.cU k hk, fun j => by rw [frozen_of_heap (p := ⟨p, j, none⟩) hk]; exact h.fr j⟩
theorem WAt.later {w w' : World} {p : Nat} {a : Addr} {T : Nat → List Value} {nm us : Nat → Int} (h : WAt w p a T nm us) (hb : Below w.heap.size w w') : WAt w' p a T nm us := h.kept (hb.block p h.lt)
theorem WAt.drew {w : World} {p : Nat} {a : Addr} {T : Nat → List Value} {nm us : Nat → Int} (h : WAt w p a T nm us) : WAt w.drew p a T nm us := h.kept rfl
theorem WAt.there {w : World} {p : Nat} {a : Addr} {T : Nat → List Value} {nm us : Nat → Int} (h : WAt w p a T nm us) {k : Nat} (hk : k < 32) : w.there p (1 + k * 14) 14 := fun j hj => by
  have hl := h.lT k hk
  refine ⟨?_, h.fr _⟩
  rw [h.cT k hk j _ (List.getElem?_eq_getElem (by omega))]
  rfl
theorem WAt.setT {w : World} {p : Nat} {a : Addr} {T : Nat → List Value} {nm us : Nat → Int} (h : WAt w p a T nm us) {k : Nat} (hk : k < 32) {vs : List Value} (hv : vs.length = 14) : WAt (w.setCells p (1 + k * 14) vs) p a (fun i => if i = k then vs else T i) nm us := by
  have hs : ∀ i, 1 + k * 14 ≤ i → i < 1 + k * 14 + vs.length → (w.cell? ⟨p, i, none⟩).isSome := fun i h1 h2 => by
    have := (h.there hk (i - (1 + k * 14)) (by omega)).1
    rwa [show 1 + k * 14 + (i - (1 + k * 14)) = i by omega] at this
  have hc : ∀ j, (w.setCells p (1 + k * 14) vs).cell? ⟨p, j, none⟩ = if 1 + k * 14 ≤ j ∧ j < 1 + k * 14 + vs.length then vs[j - (1 + k * 14)]? else w.cell? ⟨p, j, none⟩ := fun j => setCells_cell p vs _ w j hs
  refine ⟨by rw [hc, if_neg (by omega)]; exact h.c0, fun i hi => ?_, fun i hi j v hj => ?_, fun i hi => ?_, fun i hi => ?_, fun j => by rw [frozen_setCells]; exact h.fr j⟩
  · split
    · exact hv
    · exact h.lT i hi
  · rw [hc]
    by_cases e : i = k
    · subst e
      rw [if_pos rfl] at hj
      have hlt := (List.getElem?_eq_some_iff.1 hj).1
      rw [if_pos (by omega), show 1 + i * 14 + j - (1 + i * 14) = j by omega]
      exact hj
    · rw [if_neg e] at hj
      have hlt := (List.getElem?_eq_some_iff.1 hj).1
      have hl := h.lT i hi
      rw [if_neg (by omega)]
      exact h.cT i hi j v hj
  · rw [hc, if_neg (by omega)]; exact h.cN i hi
  · rw [hc, if_neg (by omega)]; exact h.cU i hi
theorem WAt.setN {w : World} {p : Nat} {a : Addr} {T : Nat → List Value} {nm us : Nat → Int} (h : WAt w p a T nm us) {k : Nat} (hk : k < 32) (z : Int) : WAt (w.setCell ⟨p, 449 + k, none⟩ (.int .i64 z)) p a T (fun i => if i = k then z else nm i) us := by
  have hc : ∀ j, j ≠ 449 + k → (w.setCell ⟨p, 449 + k, none⟩ (.int .i64 z)).cell? ⟨p, j, none⟩ = w.cell? ⟨p, j, none⟩ := fun j hj => by rw [World.cell?_setCell_other (h := by intro e; simp at e <;> omega)]
  refine ⟨by rw [hc _ (by omega)]; exact h.c0, h.lT, fun i hi j v hj => ?_, fun i hi => ?_, fun i hi => by rw [hc _ (by omega)]; exact h.cU i hi, fun j => by rw [World.frozen?_setCell]; exact h.fr j⟩
  · have hlt := (List.getElem?_eq_some_iff.1 hj).1
    have hl := h.lT i hi
    rw [hc _ (by omega)]
    exact h.cT i hi j v hj
  · by_cases e : i = k
    · subst e
      rw [World.cell?_setCell_same w _ _ (h.cN i hi)]
      simp
    · rw [hc _ (by omega), h.cN i hi]
      simp [e]

/-! ### A new walker -/
def told0 : List Value := toldC noNode (.slice none 0 0) (.slice none 0 0) (.slice none 0 0)
def walkZ (a : Addr) : List Value := .pointer (some a) :: ((List.replicate 32 told0).flatten ++ List.replicate 512 (.int .i64 0))
theorem flat14 : ∀ (L : List (List Value)), (∀ c ∈ L, c.length = 14) → ∀ k j, j < 14 → L.flatten[k * 14 + j]? = (L[k]?).bind (·[j]?)
  | [], _, k, j, _ => by simp
  | c :: r, h, 0, j, hj => by
    have hc := h c (by simp)
    rw [List.flatten_cons, Nat.zero_mul, Nat.zero_add, List.getElem?_append_left (by omega)]
    rfl
  | c :: r, h, k + 1, j, hj => by
    have hc := h c (by simp)
    rw [List.flatten_cons, List.getElem?_append_right (by omega), hc, show (k + 1) * 14 + j - 14 = k * 14 + j by omega, flat14 r (fun x hx => h x (List.mem_cons_of_mem _ hx)) k j hj]
    rfl
set_option maxRecDepth 100000 in
theorem told0s_length : (List.replicate 32 told0).flatten.length = 448 := by decide
theorem walkZ_at (w : World) (a : Addr) (T : TypeId) : WAt (w.alloc (.cells (walkZ a).toArray T)) w.heap.size a (fun _ => told0) (fun _ => 0) (fun _ => 0) := by
  have hc : ∀ j, (w.alloc (.cells (walkZ a).toArray T)).cell? ⟨w.heap.size, j, none⟩ = (walkZ a)[j]? := fun j => by rw [World.cell?_alloc_new]; simp
  refine ⟨by rw [hc]; rfl, fun k hk => rfl, fun k hk j v hj => ?_, fun k hk => ?_, fun k hk => ?_, fun j => by rw [World.frozen?_alloc_mark]; simp⟩
  · have hlt := (List.getElem?_eq_some_iff.1 hj).1
    have h14 : told0.length = 14 := rfl
    rw [hc, show 1 + k * 14 + j = (k * 14 + j) + 1 by omega]
    show ((List.replicate 32 told0).flatten ++ List.replicate 512 (.int .i64 0))[k * 14 + j]? = _
    rw [List.getElem?_append_left (by rw [told0s_length]; omega), flat14 _ (fun c hc => by rw [List.eq_of_mem_replicate hc]; rfl) k j (by omega), List.getElem?_replicate, if_pos hk]
    exact hj
  · rw [hc, show 449 + k = (448 + k) + 1 by omega]
    show ((List.replicate 32 told0).flatten ++ List.replicate 512 (.int .i64 0))[448 + k]? = _
    rw [List.getElem?_append_right (by rw [told0s_length]; omega), told0s_length, List.getElem?_replicate, if_pos (by omega)]
  · rw [hc, show 481 + k = (480 + k) + 1 by omega]
    show ((List.replicate 32 told0).flatten ++ List.replicate 512 (.int .i64 0))[480 + k]? = _
    rw [List.getElem?_append_right (by rw [told0s_length]; omega), told0s_length, List.getElem?_replicate, if_pos (by omega)]

set_option maxRecDepth 100000 in
theorem built_walker (a : Addr) : Tryz.prog.built 150 [(0, .pointer (some a))] = some (walkZ a).toArray := by kernel_rfl
end Go.Proofs.YtmcblhgpcgnaoaaGreatDoor


namespace Go.Proofs.YtmcblhgpcgnaoaaGreatDoor
open Go.RowKit
set_option linter.unusedVariables false
set_option linter.unusedSimpArgs false

theorem still_node {ops : Array Oper} {rest : List Oper} {o : Oper} {a : Act} {w : World} {Q : Act → Prop} (hg : o.guard = none) (x : Operand) (ho : o.op = .load 49 x) (dst : Option Tmp) (hd : o.dst = dst) (b : Nat) (hx : a.eval x = .pointer (some ⟨b, 0, none⟩))
    (c : List Value) (hr : w.rangeAt b 0 c) (hc : (Tryz.prog.info? 49).map (·.size) = some c.length) (h : wpStill Tryz.prog ops w Q rest (a.put dst (.agg c.toArray))) : wpStill Tryz.prog ops w Q (o :: rest) a := by
  subst hd
  refine wpStill_step (fun K hK => ?_)
  rw [if_pos (by simp [Region.wanted, hg])]
  unfold Oper.still execOp
  simp only [ho, hx, Instr.loadAt, Instr.sureAddr, Sem.run_bind, Sem.run_pure, Result.andThen_ok, run_loadVar_mid w b 0 _ c _ hr Tryz.underlying49 rfl hc, Oper.stillUpon_value]
  exact hK _ h
set_option maxRecDepth 100000 in
theorem still_build {ops : Array Oper} {rest : List Oper} {o : Oper} {a : Act} {w : World} {Q : Act → Prop} (hg : o.guard = none) (T : TypeId) (parts : Array (Nat × Operand)) (ho : o.op = .build T parts) (dst : Option Tmp) (hd : o.dst = dst) (cells : Array Value)
    (hb : Tryz.prog.built T (parts.map fun (i, x) => (i, a.eval x)).toList = some cells) (h : wpStill Tryz.prog ops w Q rest (a.put dst (.agg cells))) : wpStill Tryz.prog ops w Q (o :: rest) a := by
  subst hd
  refine wpStill_step (fun K hK => ?_)
  rw [if_pos (by simp [Region.wanted, hg])]
  unfold Oper.still execOp
  simp only [ho, Sem.run_bind, run_build w T _ cells hb, Result.andThen_ok, Sem.run_pure, Oper.stillUpon_value]
  exact hK _ h
section
variable {ops : Array Oper} {rest : List Oper} {o : Oper} {a : Act} {w : World} {Q : Exit → Act → World → Prop}
/-- A store into new memory: what lies there then. -/
theorem wp_store_new (hg : o.guard = none) (T : TypeId) (x y : Operand) (ho : o.op = .store T x y) (b : Nat) (vs : Array Value) (hx : a.eval x = .pointer (some ⟨b, 0, none⟩)) (hy : a.eval y = .agg vs) (ht : w.there b 0 vs.size) (hi : (Tryz.prog.info? T).map (·.size) = some vs.size) (h1 : vs.all (·.oneCell') = true) (hd : o.dst = none)
    (h : ∀ w2, w2.rangeAt b 0 vs.toList → (∀ base w0, base ≤ b → Below base w0 w → Below base w0 w2) → wpList Tryz.prog ops Q rest (a.put none undef) w2) : wpList Tryz.prog ops Q (o :: rest) a w := by
  refine wpList_store_mid hg T x y ho b 0 vs hx hy ht hi h1 ?_
  rw [hd]
  exact h _ (World.rangeAt_setCells_same _ _ _ _ (by simpa using ht)) (fun base w0 hb hB => below_cells _ hb _ _ _ hB)
end
set_option maxRecDepth 100000 in
theorem one_told (k f l z d0 d1 d2 d3 s t c : Int) (xo : Option Addr) (m xc : Nat) (po oo : Option Addr) (pc oc : Nat) : (#[.int .i64 k, .int .i64 f, .int .i64 l, .int .i64 z, .int .i64 d0, .int .i64 d1, .int .i64 d2, .int .i64 d3, .int .i64 s, .int .i64 t, .slice xo m xc, .int .i64 c, .slice po 0 pc, .slice oo 0 oc] : Array Value).all (·.oneCell') = true := by simp [Value.oneCell']

/-- What a walker keeps of a node without pointers. -/
def ToldIs (x : PNode) (l : List Value) : Prop := ∃ xo xm xc po pc oo oc, l = toldC x (.slice xo xm xc) (.slice po 0 pc) (.slice oo 0 oc)

set_option maxRecDepth 100000 in
set_option maxHeartbeats 3200000 in
theorem wread_empty {w w0 : World} {base p : Nat} {a : Addr} {F : Nat → Prop} {I : Img} {T : Nat → List Value} (hW : WAt w p a T (fun _ => 0) (fun _ => 0)) (hI : ImgI w a F I) (hR : ∀ W, ImgI W a F I → ∀ k : Nat, k < 32 → Calls Tryz.prog 22 #[.pointer (some a), .int .i64 k] W (NodeDone W (nodeAt I.bl k) [] [])) (hF : ¬ F p) (hb : Below base w0 w) (hbw : base ≤ w0.heap.size) (hp : base ≤ p) :
    Calls Tryz.prog 154 #[.pointer (some ⟨p, 0, none⟩)] w fun e w' => e = .returned (.bool true) ∧ (∃ T, WAt w' p a T (fun _ => 0) (fun _ => 0) ∧ ∀ k, k < 32 → ToldIs (nodeAt I.bl k) (T k)) ∧ ImgI w' a F I ∧ Below base w0 w' := by
  have HN : Hid (∀ W, ImgI W a F I → ∀ k : Nat, k < 32 → Calls Tryz.prog 22 #[.pointer (some a), .int .i64 k] W fun e w' => ∃ k0 f l z d0 d1 d2 d3 s t c xo xm xc po pc oo oc, e = .returned (.tuple #[.agg #[.int .i64 k0, .int .i64 f, .int .i64 l, .int .i64 z, .int .i64 d0, .int .i64 d1, .int .i64 d2, .int .i64 d3, .int .i64 s, .int .i64 t, .slice xo xm xc, .int .i64 c], .slice po 0 pc, .slice oo 0 oc, .int .i64 0]) ∧
      toldC (nodeAt I.bl k) (.slice xo xm xc) (.slice po 0 pc) (.slice oo 0 oc) = [.int .i64 k0, .int .i64 f, .int .i64 l, .int .i64 z, .int .i64 d0, .int .i64 d1, .int .i64 d2, .int .i64 d3, .int .i64 s, .int .i64 t, .slice xo xm xc, .int .i64 c, .slice po 0 pc, .slice oo 0 oc] ∧ Below W.heap.size W w') := Lib.hid (fun W h k hk => by
    refine (hR W h k hk).mono ?_
    rintro e w' ⟨xo, m, xc, v, u, rfl, _, _, ⟨po, pc, rfl, _⟩, ⟨oo, oc, rfl, _⟩, hb⟩
    exact ⟨_, _, _, _, _, _, _, _, _, _, _, xo, m, xc, po, pc, oo, oc, rfl, rfl, hb⟩)
  have HF := Lib.hid hF
  have HP := Lib.hid hp
  have HBW := Lib.hid hbw
  go_enter Tryz.func154, Tryz.ntmps154
  go_wp2_with fail
  have HJ0 : Hid ((∃ T, WAt w p a T (fun _ => 0) (fun _ => 0) ∧ ∀ k, k < 0 → ToldIs (nodeAt I.bl k) (T k)) ∧ ImgI w a F I ∧ Below base w0 w) := Lib.hid ⟨⟨T, hW, fun k hk => absurd hk (by omega)⟩, hI, hb⟩
  clear hW hI hR hF hb hp hbw
  go_loopw [8] (fun kv wr => ∃ i : Nat, i ≤ 32 ∧ kv = .int .i64 i ∧ Hid ((∃ T, WAt wr p a T (fun _ => 0) (fun _ => 0) ∧ ∀ k, k < i → ToldIs (nodeAt I.bl k) (T k)) ∧ ImgI wr a F I ∧ Below base w0 wr)) (fun kv _ => 32 - (intOf kv).toNat)
  case atStart => exact ⟨0, Nat.zero_le _, rfl, HJ0⟩
  case round =>
    obtain ⟨i, hi, rfl, HJ⟩ := hrel
    clear HJ0
    by_cases hlt : i < 32
    · have i2 : (i : Int) < 32 := by omega
      obtain ⟨⟨T1, hT1, hT2⟩, hI1, hb1⟩ := HJ.out
      have q0 := hT1.c0
      have HT1 := Lib.hid hT1
      have HT2 := Lib.hid hT2
      have HI1 := Lib.hid hI1
      have HB1 := Lib.hid hb1
      have cN := HN.out wr hI1 i hlt
      clear HJ hT1 hT2 hI1 hb1
      go_wp2_with (first
        | (go_at_call 22; refine cN.mono ?_; rintro e w2 ⟨k0, nf, nl, nz, d0, d1, d2, d3, ns, nt, nc, xo, xm, xc, po, pc, oo, oc, rfl, htc, hb2⟩; have HB2 := Lib.hid hb2; have HTC := Lib.hid htc; clear hb2 htc cN)
        | (refine wp_store_new rfl 49 (.tmp 4) (.tmp 18) rfl w2.heap.size #[.int .i64 k0, .int .i64 nf, .int .i64 nl, .int .i64 nz, .int .i64 d0, .int .i64 d1, .int .i64 d2, .int .i64 d3, .int .i64 ns, .int .i64 nt, .slice xo xm xc, .int .i64 nc] rfl rfl (there_new0 _ _ _ rfl) (by kernel_rfl) (one_node ..) rfl ?_; intro w3 hr3 hw3; have HB3 : Hid (Below wr.heap.size wr w3) := Lib.hid (hw3 _ _ HB2.out.size (HB2.out.alloc HB2.out.size _)); have HR3 := Lib.hid hr3; clear hw3 hr3))
      have HWA := Lib.hid (HT1.out.later HB3.out).drew
      have HRD := Lib.hid ((World.rangeAt_drew _ _ _ _).2 HR3.out)
      refine wp_region_still_tail 9 (by kernel_rfl) (by kernel_rfl) ?_
      simp only [List.take_succ_cons, List.take_zero, List.drop_succ_cons, List.drop_zero]
      try rw [drew_eq17]
      iterate 2 still_step
      refine still_node rfl (.tmp 4) rfl (some 26) rfl w2.heap.size rfl _ HRD.out (by kernel_rfl) ?_
      iterate 2 still_step
      refine still_build rfl 145 _ rfl (some 29) rfl #[.int .i64 k0, .int .i64 nf, .int .i64 nl, .int .i64 nz, .int .i64 d0, .int .i64 d1, .int .i64 d2, .int .i64 d3, .int .i64 ns, .int .i64 nt, .slice xo xm xc, .int .i64 nc, .slice po 0 pc, .slice oo 0 oc] (by kernel_rfl) ?_
      iterate 3 still_step
      refine wpStill_nil ?_
      refine wpList_store_mid rfl 145 (.tmp 32) (.tmp 29) rfl p (1 + i * 14) #[.int .i64 k0, .int .i64 nf, .int .i64 nl, .int .i64 nz, .int .i64 d0, .int .i64 d1, .int .i64 d2, .int .i64 d3, .int .i64 ns, .int .i64 nt, .slice xo xm xc, .int .i64 nc, .slice po 0 pc, .slice oo 0 oc] rfl rfl (HWA.out.there hlt) (by kernel_rfl) (one_told ..) ?_
      have hw4 := HWA.out.setT hlt (vs := [.int .i64 k0, .int .i64 nf, .int .i64 nl, .int .i64 nz, .int .i64 d0, .int .i64 d1, .int .i64 d2, .int .i64 d3, .int .i64 ns, .int .i64 nt, .slice xo xm xc, .int .i64 nc, .slice po 0 pc, .slice oo 0 oc]) rfl
      have hb3 := HB1.out.trans (HB3.out.mono (Nat.le_trans HBW.out HB1.out.size))
      have hb4 : Below base w0 (w3.drew.setCells p (1 + i * 14) [.int .i64 k0, .int .i64 nf, .int .i64 nl, .int .i64 nz, .int .i64 d0, .int .i64 d1, .int .i64 d2, .int .i64 d3, .int .i64 ns, .int .i64 nt, .slice xo xm xc, .int .i64 nc, .slice po 0 pc, .slice oo 0 oc]) := below_cells _ HP.out _ _ _ hb3.drew
      have hi4 : ImgI (w3.drew.setCells p (1 + i * 14) [.int .i64 k0, .int .i64 nf, .int .i64 nl, .int .i64 nz, .int .i64 d0, .int .i64 d1, .int .i64 d2, .int .i64 d3, .int .i64 ns, .int .i64 nt, .slice xo xm xc, .int .i64 nc, .slice po 0 pc, .slice oo 0 oc]) a F I := (HI1.out.later HB3.out).grew ((Grew.drew (fun k => k = p) w3).trans (Grew.setCells (fun k => k = p) rfl _ _ _)) (fun k hk e => HF.out (by rw [← e]; exact hk))
      generalize w3.drew.setCells p (1 + i * 14) _ = w4 at hw4 hb4 hi4 ⊢
      have HW4 := Lib.hid hw4
      have HB4 := Lib.hid hb4
      have HI4 := Lib.hid hi4
      clear hw4 hb3 hb4 hi4 HRD HWA
      go_wp2_with (go_at_call 212; refine (count_nil _ _ _).mono ?_; rintro e w' ⟨rfl, rfl⟩)
      go_roundw
      case rel => exact ⟨i + 1, by omega, by go_num, Lib.hid ⟨⟨_, HW4.out, fun k hk => by
        by_cases e : k = i
        · subst e
          rw [if_pos rfl]
          exact ⟨xo, xm, xc, po, pc, oo, oc, HTC.out.symm⟩
        · rw [if_neg e]
          exact HT2.out k (by omega)⟩, HI4.out, HB4.out⟩⟩
      case measure => simp [intOf]; omega
    · have hit : i = 32 := by omega
      subst hit
      clear HN
      go_wp2_with fail
      go_ret
      exact ⟨rfl, HJ.out⟩
end Go.Proofs.YtmcblhgpcgnaoaaGreatDoor


namespace Go.Proofs.YtmcblhgpcgnaoaaGreatDoor
open Go.RowKit
set_option linter.unusedVariables false
set_option linter.unusedSimpArgs false

/-- A load of many cells, behind a guard that is met. -/
theorem wp_load_g {ops : Array Oper} {rest : List Oper} {o : Oper} {a : Act} {w : World} {Q : Exit → Act → World → Prop} (hw : Region.wanted o (yielded ops a.tmps) = true) (ty : TypeId) (x : Operand) (ho : o.op = .load ty x)
    (b off : Nat) (hx : a.eval x = .pointer (some ⟨b, off, none⟩)) (cs : List Value) (d : TypeDesc) (hc : w.rangeAt b off cs) (hu : Tryz.prog.underlying ty = some d) (hd : d.isRow = true) (hi : (Tryz.prog.info? ty).map (·.size) = some cs.length)
    (h : wpList Tryz.prog ops Q rest (a.put o.dst (.agg cs.toArray)) w) : wpList Tryz.prog ops Q (o :: rest) a w := by
  rw [wpList, if_pos hw]
  exact Or.inl (wp_load_mid ty x ho b off hx cs d hc hu hd hi h)

theorem needs_none {w : World} {p k : Nat} {a : Addr} {T : Nat → List Value} {nm : Nat → Int} (hW : WAt w p a T nm (fun _ => 0)) (hk : k < 480) :
    Calls Tryz.prog 93 #[.pointer (some ⟨p, 0, none⟩), .int .i64 k] w fun e w' => e = .returned (.bool (decide (k < 59))) ∧ w = w' := by
  have cu := hW.cU k hk
  have HU := Lib.hid cu
  have k2 : (k : Int) < 480 := by omega
  by_cases h59 : k < 59
  · have k1 : (k : Int) < 59 := by omega
    rw [show decide (k < 59) = true from decide_eq_true h59]
    clear cu hW h59 hk
    go_enter Tryz.func93, Tryz.ntmps93
    go_wp2_with fail
    go_ret
    exact ⟨rfl, rfl⟩
  · have k1 : (59 : Int) ≤ (k : Int) := by omega
    rw [show decide (k < 59) = false from decide_eq_false h59]
    have HD : Hid (decide ((k : Int) < 59) = false) := Lib.hid (decide_eq_false (by omega))
    clear hW h59 hk
    go_enter Tryz.func93, Tryz.ntmps93
    go_wp2_with fail
    go_ret
    refine ⟨?_, rfl⟩
    show Ending.returned (.bool (decide ((k : Int) < 59))) = _
    rw [HD.out]

set_option maxRecDepth 100000 in
set_option maxHeartbeats 1600000 in
theorem name_root {w w0 : World} {base p : Nat} {a : Addr} {F : Nat → Prop} {I : Img} {T : Nat → List Value} {f : Int} (hW : WAt w p a T (fun _ => 0) (fun _ => 0)) (h0 : ToldIs (rootN f) (T 0)) (hI : ImgI w a F I) (hF : ¬ F p) (hb : Below base w0 w) (hbw : base ≤ w0.heap.size) (hp : base ≤ p) :
    Calls Tryz.prog 155 #[.pointer (some ⟨p, 0, none⟩), .int .i64 0] w fun e w' => e = .returned (.bool true) ∧ WAt w' p a T (fun i => if i = 0 then 1 else 0) (fun _ => 0) ∧ ImgI w' a F I ∧ Below base w0 w' := by
  obtain ⟨xo, xm, xc, po, pc, oo, oc, hT⟩ := h0
  have cn := hW.cN 0 (by decide)
  rw [Nat.add_zero] at cn
  have fz := hW.fr 449
  have HW1 : Hid (WAt ((w.drew).setCell ⟨p, 449, none⟩ (.int .i64 1)) p a T (fun i => if i = 0 then 1 else 0) (fun _ => 0)) := Lib.hid (hW.drew.setN (k := 0) (by decide) 1)
  have HI1 : Hid (ImgI ((w.drew).setCell ⟨p, 449, none⟩ (.int .i64 1)) a F I) := Lib.hid (hI.grew ((Grew.drew (fun k => k = p) w).trans (Grew.setCell (fun k => k = p) w.drew (p := ⟨p, 449, none⟩) rfl _)) (fun k hk e => hF (by rw [← e]; exact hk)))
  have HB1 : Hid (Below base w0 ((w.drew).setCell ⟨p, 449, none⟩ (.int .i64 1))) := Lib.hid (hb.drew.setCell (p := ⟨p, 449, none⟩) hp _)
  have HBW := Lib.hid hbw
  have HT := Lib.hid hT
  clear hI hF hb hbw hp hT
  go_enter Tryz.func155, Tryz.ntmps155
  go_wp2_with fail
  have cn2 := (World.cell?_drew w ⟨p, 449, none⟩).trans cn
  refine wp_region_still_tail 10 (by kernel_rfl) (by kernel_rfl) ?_
  simp only [List.take_succ_cons, List.take_zero, List.drop_succ_cons, List.drop_zero]
  try rw [drew_eq17]
  iterate 10 still_step
  refine wpStill_nil ?_
  have fz2 : w.drew.frozen? ⟨p, 449, none⟩ = false := fz
  go_wp2_with (first
    | (refine wp_load_g (by kernel_rfl) 145 (.tmp 28) rfl p 1 rfl (toldC (rootN f) (.slice xo xm xc) (.slice po 0 pc) (.slice oo 0 oc)) _ (by have h := HW1.out.cT 0 (by decide); rw [HT.out] at h; exact h) Tryz.underlying145 rfl (by kernel_rfl) ?_)
    | (go_at_call 213; refine (walk_root _ _ _ _ _ _ _ _ _ _ _ _ _ _).mono ?_; rintro e w2 ⟨rfl, hb2⟩; have HB2 := Lib.hid hb2; clear hb2))
  go_ret
  exact ⟨rfl, HW1.out.later HB2.out, HI1.out.later HB2.out, HB1.out.trans (HB2.out.mono (Nat.le_trans HBW.out HB1.out.size))⟩
end Go.Proofs.YtmcblhgpcgnaoaaGreatDoor


namespace Go.Proofs.YtmcblhgpcgnaoaaGreatDoor
set_option linter.unusedVariables false
set_option linter.unusedSimpArgs false

theorem node_emptyP {n : Nat} {f : Int} (h : 64 ≤ n) (hf : 1 ≤ f ∧ f ≤ 2) (k : Nat) (hk : k < 32) : nodeAt (emptyP n f) k = if k = 0 then rootN f else noNode := by
  unfold nodeAt
  rw [half_emptyP h hf k hk]
  split
  · exact (node_back (root_ok hf).1 (root_ok hf).2.1).2
  · exact (node_back noNode_ok.1 noNode_ok.2.1).2
end Go.Proofs.YtmcblhgpcgnaoaaGreatDoor


namespace Go.Proofs.YtmcblhgpcgnaoaaGreatDoor
open Go.RowKit
set_option linter.unusedVariables false
set_option linter.unusedSimpArgs false

/-- An empty volume's blocks, in the words that a walk asks for. -/
structure EmptyI (B : List (List Int)) (n : Nat) (f : Int) : Prop where
  vol : VolOk B
  sup : supAt B = ⟨n, f, 0, 0, 0⟩
  fok : 1 ≤ f ∧ f ≤ 2
  nod : ∀ k, k < 32 → nodeAt B k = if k = 0 then rootN f else noNode
  flg : ∀ k, k < 480 → flag (flagsAt B) k = decide (k < 59)
set_option maxRecDepth 100000 in
theorem flag_upE : ∀ k, k < 480 → flag upE k = decide (k < 59) := by decide +kernel
theorem emptyI {n : Nat} {f : Int} (h : 64 ≤ n) (h2 : n ≤ 480) (hf : 1 ≤ f ∧ f ≤ 2) : EmptyI (emptyP n f) n f :=
  ⟨vol_emptyP h h2 hf, (sup_emptyP h h2 hf).2, hf, fun k hk => node_emptyP h hf k hk, fun k hk => by rw [flags_emptyP f h]; exact flag_upE k hk⟩
theorem esuper {w : World} {a : Addr} {F : Nat → Prop} {I : Img} {n : Nat} {f : Int} (h : ImgI w a F I) (hE : EmptyI I.bl n f) :
    Calls Tryz.prog 16 #[.pointer (some a)] w fun e w' => e = .returned (.agg #[.int .i64 n, .int .i64 f, .int .i64 0, .int .i64 0, .int .i64 0]) ∧ Below w.heap.size w w' := by
  have c := isuper_any h hE.vol
  rw [hE.sup] at c
  exact c

set_option maxRecDepth 100000 in
set_option maxHeartbeats 1600000 in
theorem snode_root {w : World} {p k : Nat} {a : Addr} {F : Nat → Prop} {I : Img} {T : Nat → List Value} {nm us : Nat → Int} {n : Nat} {f : Int} (hk : k < 32) (hW : WAt w p a T nm us) (hn : nm k = 1) (hI : ImgI w a F I) (hE : EmptyI I.bl n f) (x3 x4 x5 x6 x7 x8 x9 x10 x11 x12 x13 : Value) :
    Calls Tryz.prog 214 #[.pointer (some ⟨p, 0, none⟩), .int .i64 k, .agg #[.int .i64 2, .int .i64 f, .int .i64 1, x3, x4, x5, x6, x7, x8, x9, x10, x11, x12, x13]] w fun e w' => e = .returned (.bool true) ∧ Below w.heap.size w w' := by
  have b1 : Below w.heap.size w (w.alloc (.cells #[.int .i64 2, .int .i64 f, .int .i64 1, x3, x4, x5, x6, x7, x8, x9, x10, x11, x12, x13] 145)) := (Below.refl _ _).alloc (Nat.le_refl _) _
  have q0 := (hW.later b1).c0
  have qn := (hW.later b1).cN k hk
  rw [hn] at qn
  have k2 : (k : Int) < 32 := by omega
  have e0 : (w.alloc (.cells #[.int .i64 2, .int .i64 f, .int .i64 1, x3, x4, x5, x6, x7, x8, x9, x10, x11, x12, x13] 145)).cell? ⟨w.heap.size, 0, none⟩ = some (.int .i64 2) := by rw [World.cell?_alloc_new]; rfl
  have e1 : (w.alloc (.cells #[.int .i64 2, .int .i64 f, .int .i64 1, x3, x4, x5, x6, x7, x8, x9, x10, x11, x12, x13] 145)).cell? ⟨w.heap.size, 1, none⟩ = some (.int .i64 f) := by rw [World.cell?_alloc_new]; rfl
  have e2 : (w.alloc (.cells #[.int .i64 2, .int .i64 f, .int .i64 1, x3, x4, x5, x6, x7, x8, x9, x10, x11, x12, x13] 145)).cell? ⟨w.heap.size, 2, none⟩ = some (.int .i64 1) := by rw [World.cell?_alloc_new]; rfl
  have HC := Lib.hid (And.intro e0 (And.intro e1 (And.intro e2 qn)))
  have cS := esuper (hI.later b1) hE
  have HB1 := Lib.hid b1
  have hfld : ∀ (v0 v1 v2 v3 v4 : Value) (w : World), (Instr.field 32 (.agg #[v0, v1, v2, v3, v4]) 1).run Tryz.prog w = .ok v1 w := fun _ _ _ _ _ _ => by kernel_rfl
  have hf3 : (f != 3) = true := by have := hE.fok; simp; omega
  have hff : (f != f) = false := by simp
  clear hW hn hI hE b1 qn e0 e1 e2 hk
  go_enter Tryz.func214, Tryz.ntmps214
  go_wp2_with (go_at_call 16; refine cS.mono ?_; rintro e w2 ⟨rfl, hb2⟩; have HB2 := Lib.hid hb2; have g0 := cell_later hb2 HC.out.1; have g1 := cell_later hb2 HC.out.2.1; have g2 := cell_later hb2 HC.out.2.2.1; have g3 := cell_later hb2 HC.out.2.2.2; clear hb2 cS q0)
  go_ret
  exact ⟨rfl, HB1.out.trans (HB2.out.mono HB1.out.size)⟩

set_option maxRecDepth 100000 in
set_option maxHeartbeats 1600000 in
theorem snode_free {w : World} {p k : Nat} {a : Addr} {F : Nat → Prop} {I : Img} {T : Nat → List Value} {nm us : Nat → Int} {n : Nat} {f : Int} (hk : k < 32) (hW : WAt w p a T nm us) (hn : nm k = 0) (hI : ImgI w a F I) (hE : EmptyI I.bl n f) (x1 x2 x3 x4 x5 x6 x7 x8 x9 x10 x11 x12 x13 : Value) :
    Calls Tryz.prog 214 #[.pointer (some ⟨p, 0, none⟩), .int .i64 k, .agg #[.int .i64 0, x1, x2, x3, x4, x5, x6, x7, x8, x9, x10, x11, x12, x13]] w fun e w' => e = .returned (.bool true) ∧ Below w.heap.size w w' := by
  have b1 : Below w.heap.size w (w.alloc (.cells #[.int .i64 0, x1, x2, x3, x4, x5, x6, x7, x8, x9, x10, x11, x12, x13] 145)) := (Below.refl _ _).alloc (Nat.le_refl _) _
  have q0 := (hW.later b1).c0
  have qn := (hW.later b1).cN k hk
  rw [hn] at qn
  have e0 : (w.alloc (.cells #[.int .i64 0, x1, x2, x3, x4, x5, x6, x7, x8, x9, x10, x11, x12, x13] 145)).cell? ⟨w.heap.size, 0, none⟩ = some (.int .i64 0) := by rw [World.cell?_alloc_new]; rfl
  have HC := Lib.hid (And.intro e0 qn)
  have cS := esuper (hI.later b1) hE
  have HB1 := Lib.hid b1
  have hfld : ∀ (v0 v1 v2 v3 v4 : Value) (w : World), (Instr.field 32 (.agg #[v0, v1, v2, v3, v4]) 1).run Tryz.prog w = .ok v1 w := fun _ _ _ _ _ _ => by kernel_rfl
  have k2 : (k : Int) < 32 := by omega
  clear hW hn hI hE b1 qn e0 hk
  go_enter Tryz.func214, Tryz.ntmps214
  go_wp2_with (go_at_call 16; refine cS.mono ?_; rintro e w2 ⟨rfl, hb2⟩; have HB2 := Lib.hid hb2; have g0 := cell_later hb2 HC.out.1; have g3 := cell_later hb2 HC.out.2; clear hb2 cS q0)
  go_ret
  exact ⟨rfl, HB1.out.trans (HB2.out.mono HB1.out.size)⟩
end Go.Proofs.YtmcblhgpcgnaoaaGreatDoor

