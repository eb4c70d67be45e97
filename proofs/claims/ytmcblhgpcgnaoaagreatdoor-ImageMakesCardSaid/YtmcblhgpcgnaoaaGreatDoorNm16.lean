/-
  Proved here: lists of blocks of a call's own, and what 'append' does to them. The conditions stand at each theorem. Proved here: what the landed image's Super and Blocks answer; slices.Clone of bytes. The conditions stand at each theorem. Proved here: blocks compared; what the landed image's Changes answers where nothing is changed. The conditions stand at each theorem. Proved here: what the document's own Same of layer 17 answers. The conditions stand at each theorem. Proved here: plain facts on an empty volume's blocks: each row of them, and that rows set one by one are these. No conditions but those that each theorem names. Nothing of the program is read here. Proved here: what the landed image answers of an empty volume. The conditions stand at each theorem. Proved here: lists of blocks of a call's own whose places are set anew. The conditions stand at each theorem. Proved here: what the document's own Blocks of one run, Map of flags and Mark of one run answer. The conditions stand at each theorem. Proved here: what the document's own making of blocks of Supers and Heads (drydockref08: Encode, PutHead) answers. The conditions stand at each theorem.
-/
import Derived.Test.YtmcblhgpcgnaoaaGreatDoorNm0
import Derived.Test.YtmcblhgpcgnaoaaGreatDoorNm11
import Derived.Test.YtmcblhgpcgnaoaaGreatDoorNm15
import Derived.Test.YtmcblhgpcgnaoaaGreatDoorNm4
import Derived.Stop.BytesEq
import Derived.Test.YtmcblhgpcgnaoaaGreatDoorNm6
import Derived.Test.YtmcblhgpcgnaoaaGreatDoorNm7
import Derived.Test.YtmcblhgpcgnaoaaGreatDoorNm1
namespace Go.Proofs.YtmcblhgpcgnaoaaGreatDoor
open Go.RowKit
set_option linter.unusedVariables false
set_option linter.unusedSimpArgs false

theorem elemBs : ElemR 28 62 (.slice none 0 0) 1 24 := ⟨Tryz.underlying28, by kernel_rfl, rfl, by decide, by decide⟩

/-- A list of blocks of 64 bytes, each text apart from the row. -/
def BOwn (base lo : Nat) (w : World) (v : Value) (bs : List (List Int)) : Prop :=
  ∃ xs, w.ownsRow base 62 1 v bs.length xs ∧ ∀ (j : Nat) (zs : List Int), bs[j]? = some zs → ∃ db off cap, xs[j]? = some (.slice (some ⟨db, off, none⟩) 64 cap) ∧ (lo ≤ db ∧ db < w.heap.size) ∧ v.ownBlock ≠ some db ∧ Arg w (some ⟨db, off, none⟩) 64 cap zs

theorem BOwn.later {base lo : Nat} {w w' : World} {v : Value} {bs : List (List Int)} (h : BOwn base lo w v bs) (hb : Below w.heap.size w w') : BOwn base lo w' v bs := by
  obtain ⟨xs, ho, hx⟩ := h
  refine ⟨xs, owns_later_r ho hb, fun j zs hj => ?_⟩
  obtain ⟨d, o, c, c1, c2, c3, c4⟩ := hx j zs hj
  have := hb.size
  exact ⟨d, o, c, c1, ⟨c2.1, by omega⟩, c3, c4.later hb⟩

theorem BOwn.snoc {base lo : Nat} {wr wx w4 : World} {v v' : Value} {bs : List (List Int)} {zs : List Int} {xs : List Value} {db off cap : Nat} {ob : Obj}
    (h1 : wr.ownsRow base 62 1 v bs.length xs) (h2 : ∀ (j : Nat) (zs : List Int), bs[j]? = some zs → ∃ db off cap, xs[j]? = some (.slice (some ⟨db, off, none⟩) 64 cap) ∧ (lo ≤ db ∧ db < wr.heap.size) ∧ v.ownBlock ≠ some db ∧ Arg wr (some ⟨db, off, none⟩) 64 cap zs)
    (hb : Below wr.heap.size wr wx) (hd : lo ≤ db ∧ db < wx.heap.size) (hne : v.ownBlock ≠ some db) (hA : Arg wx (some ⟨db, off, none⟩) 64 cap zs)
    (hown : w4.ownsRow base 62 1 v' (bs.length + 1) (xs ++ [.slice (some ⟨db, off, none⟩) 64 cap])) (hg : (wx.alloc ob).grownBy w4 v.ownBlock) (hv : v'.ownBlock = v.ownBlock ∨ v'.ownBlock = some (wx.alloc ob).heap.size) : BOwn base lo w4 v' (bs ++ [zs]) := by
  have hxl : xs.length = bs.length := by have := h1.1; omega
  have hsz : wr.heap.size ≤ wx.heap.size := hb.size
  have hsz4 : (wx.alloc ob).heap.size ≤ w4.heap.size := hg.size
  rw [World.size_alloc] at hsz4
  have hal : ∀ {d o l c : Nat} {y : List Int}, Arg wx (some ⟨d, o, none⟩) l c y → Arg (wx.alloc ob) (some ⟨d, o, none⟩) l c y := fun h => h.later ((Below.refl _ _).alloc (Nat.le_refl _) _)
  have hnew : ∀ k, k < wx.heap.size → v.ownBlock ≠ some k → v'.ownBlock ≠ some k := fun k hk hn => by
    rcases hv with e | e
    · rw [e]; exact hn
    · rw [e, World.size_alloc]
      intro h
      simp at h
      omega
  refine ⟨_, by rw [List.length_append]; exact hown, fun j ys hj => ?_⟩
  by_cases hjl : j < bs.length
  · rw [List.getElem?_append_left hjl] at hj
    obtain ⟨d, o, c, c1, c2, c3, c4⟩ := h2 j ys hj
    exact ⟨d, o, c, by rw [List.getElem?_append_left (by omega)]; exact c1, ⟨c2.1, by omega⟩, hnew d (by omega) c3, arg_grown (hal (c4.later hb)) hg c3⟩
  · have hj0 : j = bs.length := by
      have := (List.getElem?_eq_some_iff.1 hj).1
      simp at this
      omega
    subst hj0
    rw [List.getElem?_append_right (Nat.le_refl _), Nat.sub_self] at hj
    simp at hj
    subst hj
    exact ⟨db, off, cap, by rw [List.getElem?_append_right (by omega), hxl, Nat.sub_self]; rfl, ⟨hd.1, by omega⟩, hnew db hd.2 hne, arg_grown (hal hA) hg hne⟩

/-- One block, behind a composite literal. -/
theorem BOwn.one {lo : Nat} {w : World} {zs : List Int} {db off cap : Nat} (hd : lo ≤ db ∧ db < w.heap.size) (hA : Arg w (some ⟨db, off, none⟩) 64 cap zs) :
    BOwn w.heap.size lo (w.alloc (.cells #[.slice (some ⟨db, off, none⟩) 64 cap] 62)) (.slice (some ⟨w.heap.size, 0, none⟩) 1 1) [zs] := by
  have ho : (w.alloc (.cells #[.slice (some ⟨db, off, none⟩) 64 cap] 62)).ownsRow w.heap.size 62 1 (.slice (some ⟨w.heap.size, 0, none⟩) 1 1) 1 [.slice (some ⟨db, off, none⟩) 64 cap] :=
    ⟨rfl, Or.inr ⟨w.heap.size, 1, _, rfl, Nat.le_refl _, heap_alloc_new w _, Nat.le_refl _, by decide, rfl, rfl⟩⟩
  refine ⟨_, ho, fun j ys hj => ?_⟩
  match j, hj with
  | 0, hj =>
    cases hj
    refine ⟨db, off, cap, rfl, ⟨hd.1, by simp; omega⟩, ?_, hA.later ((Below.refl _ _).alloc (Nat.le_refl _) _)⟩
    intro h
    simp [Value.ownBlock] at h
    omega
  | j + 1, hj => simp at hj

theorem BOwn.form {base lo : Nat} {w : World} {v : Value} {bs : List (List Int)} (h : BOwn base lo w v bs) (hn : 0 < bs.length) : ∃ g cap, v = .slice (some ⟨g, 0, none⟩) bs.length cap ∧ bs.length ≤ cap ∧ (base ≤ g ∧ g < w.heap.size) ∧ (∀ j, w.frozen? ⟨g, j, none⟩ = false) ∧
    ∀ (j : Nat) (zs : List Int), bs[j]? = some zs → ∃ db off c, w.cell? ⟨g, j, none⟩ = some (.slice (some ⟨db, off, none⟩) 64 c) ∧ (lo ≤ db ∧ db ≠ g) ∧ Arg w (some ⟨db, off, none⟩) 64 c zs := by
  obtain ⟨xs, ho, hx⟩ := h
  rcases ho.2 with ⟨_, h0⟩ | ⟨g, cap, cur, hv, hb, hh, hc, _⟩
  · omega
  · have hlt := ho.lt g (by rw [hv]; rfl)
    rw [hv] at ho
    refine ⟨g, cap, hv, hc, hlt, fun j => ho.frozenAt j, fun j zs hj => ?_⟩
    obtain ⟨d, o, c, c1, c2, c3, c4⟩ := hx j zs hj
    have e := ho.cells (g := g) rfl _ _ c1
    rw [Go.WideShapes.add_plain, Nat.zero_add] at e
    exact ⟨d, o, c, e, ⟨c2.1, fun e => c3 (by rw [hv, e]; rfl)⟩, c4⟩

theorem arg_lt {w : World} {db off cap : Nat} {zs : List Int} (h : Arg w (some ⟨db, off, none⟩) 64 cap zs) : db < w.heap.size := by
  obtain ⟨b', o', he, hc⟩ := h.1.2.2.2.resolve_left (by decide)
  simp only [Option.some.injEq, Addr.mk.injEq, and_true] at he
  obtain ⟨rfl, rfl⟩ := he
  exact World.block_lt_of_cell? _ _ (hc 0 (by decide))

/-- The rows of a list of blocks, to be read; from a place on. -/
theorem BOwn.rows {base lo : Nat} {w : World} {v : Value} {bs : List (List Int)} (h : BOwn base lo w v bs) (hn : 0 < bs.length) : ∃ g cap, v = .slice (some ⟨g, 0, none⟩) bs.length cap ∧ bs.length ≤ cap ∧ (base ≤ g ∧ g < w.heap.size) ∧ ∀ k m, k + m ≤ bs.length → RowsIn w (some ⟨g, k, none⟩) m (cap - k) ((bs.drop k).take m) := by
  obtain ⟨g, cap, hv, hc, hg, _, hx⟩ := h.form hn
  refine ⟨g, cap, hv, hc, hg, fun k m hkm => ⟨by rw [List.length_take, List.length_drop]; omega, by omega, Or.inr ⟨g, k, rfl, fun j hj => ?_⟩⟩⟩
  obtain ⟨d, o, c, c1, _, c3⟩ := hx (k + j) (bs[k + j]'(by omega)) (List.getElem?_eq_getElem (by omega))
  refine ⟨_, 64, c, c1, ?_, c3.2.2.1⟩
  have e : ((bs.drop k).take m).getD j [] = bs[k + j]'(by omega) := by
    rw [List.getD_eq_getElem?_getD, List.getElem?_take, if_pos hj, List.getElem?_drop, List.getElem?_eq_getElem (by omega)]; rfl
  rw [e]
  exact c3.1

end Go.Proofs.YtmcblhgpcgnaoaaGreatDoor


namespace Go.Proofs.YtmcblhgpcgnaoaaGreatDoor
open Go.RowKit
set_option linter.unusedVariables false
set_option linter.unusedSimpArgs false

set_option maxRecDepth 100000 in
theorem clone8_any (ad : Addr) (len cap : Nat) (zs : List Int) (w : World) (hA : Arg w (some ad) len cap zs) :
    Calls Tryz.prog 52 #[.slice (some ad) len cap] w (Gives w.heap.size w zs) := by
  obtain ⟨hB, hnil, _, hlen⟩ := hA
  have hown := World.ownsRow_made (base := w.heap.size) (e := 5) (size := 1) w #[] 0 (Nat.le_refl _) (by decide) rfl
  have hb0 : Below w.heap.size w (w.alloc (.cells #[] 5)) := (Below.refl _ _).alloc (Nat.le_refl _) _
  have hA0 := hB.later hb0
  have HZ := Lib.hid hB.2.2.1
  have hnil := fun (w : World) => Lib.run_eql_slice_nil (P := Tryz.prog) w 62 5 (some ad) len cap 0 0 Tryz.underlying62
  clear hB
  go_enter Tryz.func52, Tryz.ntmps52
  go_wp2_with (at_builtin; refine wp_append_bytes rfl (.tmp 5) (.tmp 6) rfl w.heap.size 0 _ [] rfl hown (some ad) len cap zs rfl hA0 (by simp) (by omega) (by simp) ?_; intro v1 w1 hown1 hb1; have HB1 := Lib.hid (hb0.trans hb1); have HO1 := Lib.hid hown1; clear hown1 hb1 hown hA0)
  go_ret
  have h := HO1.out
  rw [Nat.zero_add, List.nil_append] at h
  exact ⟨_, rfl, fresh_of_owns h HZ.out hlen, HB1.out⟩

theorem bts_range {w : World} {b off : Nat} {zs : List Int} (h : w.rangeAt b off (bys zs)) (hl : zs.length = 64) (hz : ∀ z ∈ zs, 0 ≤ z ∧ z ≤ 255) : Arg w (some ⟨b, off, none⟩) 64 64 zs :=
  ⟨⟨hl, by decide, hz, Or.inr ⟨b, off, rfl, fun j hj => h j _ (bys_at (by omega))⟩⟩, by simp, by decide, by decide⟩

set_option maxRecDepth 100000 in
set_option maxHeartbeats 1600000 in
theorem isuper_any {w : World} {a : Addr} {F : Nat → Prop} {I : Img} (h : ImgI w a F I) (hV : VolOk I.bl) :
    Calls Tryz.prog 16 #[.pointer (some a)] w fun e w' => e = .returned (supAt I.bl).val ∧ Below w.heap.size w w' := by
  obtain ⟨p, gb, gl, gs, cb, cl, cs, rfl, h, rfl⟩ := h
  obtain ⟨x0, x1, x2, x3, x4, hX⟩ : ∃ x0 x1 x2 x3 x4, supAt I.bl = ⟨x0, x1, x2, x3, x4⟩ := ⟨_, _, _, _, _, rfl⟩
  have h64 := hV.n64
  have HN : Hid (∀ W, Below w.heap.size w W → Calls Tryz.prog 51 #[.pointer (some ⟨p, 0, none⟩)] W fun e w' => e = .returned (.bool false) ∧ W = w') := Lib.hid (fun W hW => none_of (by rw [hW.cell (p := ⟨p, 0, none⟩) h.lt.1]; exact h.c0) h.n0.1)
  have HS : Hid (∀ W, Below w.heap.size w W → Calls Tryz.prog 58 #[.pointer (some ⟨p, 0, none⟩)] W fun e w' => e = .returned (.agg #[.int .i64 x0, .int .i64 x1, .int .i64 x2, .int .i64 x3, .int .i64 x4]) ∧ Below W.heap.size W w') := Lib.hid (fun W hW => by
    have c := super_any (by rw [hW.cell (p := ⟨p, 0, none⟩) h.lt.1]; exact h.c0) (h.rb.later h.n0.1 hW) rfl (by omega) hV.sup
    rw [hX] at c
    exact c)
  rw [hX]
  unfold PSup.val
  clear h hV h64 hX
  go_enter Tryz.func16, Tryz.ntmps16
  go_wp2_with (first
    | (go_at_call 51; refine (HN.out _ ((Below.refl _ _).alloc (Nat.le_refl _) _)).mono ?_; rintro e w2 ⟨rfl, rfl⟩)
    | (go_at_call 58; refine (HS.out _ ((Below.refl _ _).alloc (Nat.le_refl _) _)).mono ?_; rintro e w3 ⟨rfl, hb3⟩; have HB3 := Lib.hid hb3; clear hb3)
    | (refine wpList_store_mid rfl 32 (.tmp 2) (.tmp 9) rfl w.heap.size 0 #[.int .i64 x0, .int .i64 x1, .int .i64 x2, .int .i64 x3, .int .i64 x4] rfl rfl (there_newC HB3.out rfl) (by kernel_rfl) (one_sup _ _ _ _ _) ?_))
  refine bodyPost_ret (v := .agg #[.int .i64 x0, .int .i64 x1, .int .i64 x2, .int .i64 x3, .int .i64 x4]) ?_ rfl ⟨rfl, below_cells _ (Nat.le_refl _) _ _ _ (below_new HB3.out)⟩
  rw [results_p1 rfl _ rfl]
  exact load_sup (s := ⟨x0, x1, x2, x3, x4⟩) (World.rangeAt_setCells_same _ _ _ _ (there_newC HB3.out rfl))

set_option maxRecDepth 100000 in
set_option maxHeartbeats 3200000 in
theorem iblocks_any {w : World} {a : Addr} {F : Nat → Prop} {I : Img} (h : ImgI w a F I) :
    Calls Tryz.prog 14 #[.pointer (some a)] w fun e w' => ∃ v, e = .returned v ∧ BOwn w.heap.size w.heap.size w' v I.bl ∧ Below w.heap.size w w' := by
  obtain ⟨p, gb, gl, gs, cb, cl, cs, rfl, h, rfl⟩ := h
  have hp := h.lt.1
  have hgb := h.lt.2.1
  have hcell : ∀ W, Below w.heap.size w W → W.cell? ⟨p, 0, none⟩ = some (.slice (some ⟨gb, 0, none⟩) I.bl.length cb) := fun W hW => by rw [hW.cell (p := ⟨p, 0, none⟩) hp]; exact h.c0
  have HRW : Hid (∀ W, Below w.heap.size w W → Rw W gb I.bl) := Lib.hid (fun W hW => h.rb.later h.n0.1 hW)
  have HN := Lib.hid (none_of h.c0 h.n0.1)
  have c0 := h.c0
  have h480 := h.n0.2
  have hcb := h.kb
  obtain ⟨L, hL⟩ : ∃ L, I.bl = L := ⟨_, rfl⟩
  obtain ⟨n, hn⟩ : ∃ n, L.length = n := ⟨_, rfl⟩
  rw [hL] at c0 h480 HRW hcb ⊢
  rw [hn] at c0 h480 hcb
  have HLN := Lib.hid hn
  clear h hL hcell hn
  go_enter Tryz.func14, Tryz.ntmps14
  go_wp2_with (go_at_call 51; refine HN.out.mono ?_; rintro e w2 ⟨rfl, rfl⟩)
  have HJ0 : Hid (BOwn w.heap.size w.heap.size w (.slice none 0 0) (L.take 0) ∧ Below w.heap.size w w) := Lib.hid ⟨⟨[], owns_nil_r _ _ _ _, fun j zs hj => by simp at hj⟩, Below.refl _ _⟩
  clear HN c0
  go_loopw [3, 14] (fun vv iv wr => ∃ i : Nat, i ≤ n ∧ iv = .int .i64 i ∧ Hid (BOwn w.heap.size w.heap.size wr vv (L.take i) ∧ Below w.heap.size w wr)) (fun _ iv _ => n - (intOf iv).toNat)
  case atStart => exact ⟨0, Nat.zero_le _, rfl, HJ0⟩
  case round =>
    obtain ⟨i, hi, rfl, HJ⟩ := hrel
    clear HJ0
    by_cases hlt : i < n
    · have i2 : (i : Int) < n := by omega
      have hiL : i < L.length := by rw [HLN.out]; exact hlt
      obtain ⟨R, hR⟩ : ∃ R, L.getD i [] = R := ⟨_, rfl⟩
      have HR : Hid (wr.rangeAt gb (i * 64) (bys R) ∧ R.length = 64 ∧ (∀ z ∈ R, 0 ≤ z ∧ z ≤ 255) ∧ L.take (i + 1) = L.take i ++ [R] ∧ (L.take i).length = i) := Lib.hid (by
        have hr := HRW.out wr HJ.out.2
        have h1 := hr.range hiL
        have h2 := hr.1.at hiL
        rw [hR] at h1 h2
        refine ⟨h1, h2.1, h2.2, ?_, by rw [List.length_take]; omega⟩
        rw [List.take_add_one, ← hR, List.getD_eq_getElem?_getD, List.getElem?_eq_getElem hiL]
        rfl)
      obtain ⟨xs, ho, hxs⟩ := HJ.out.1
      rw [HR.out.2.2.2.2] at ho
      obtain ⟨la, lc, rfl⟩ := owns_shape_r ho
      have HO := Lib.hid (And.intro ho hxs)
      have HW := Lib.hid HJ.out.2
      clear HJ hR hiL ho hxs
      go_wp2_with (first
        | (refine wpList_load_mid rfl 102 (.tmp 16) rfl gb (i * 64) rfl (bys R) _ HR.out.1 ublk rfl (iblk HR.out.2.1) ?_)
        | (refine wp_new_blk rfl rfl (some 5) rfl ?_; intro n1 w1 hn1 hw1; have HO1 := Lib.hid (new_own hn1 hw1); have HN1 := Lib.hid hn1; clear hn1 hw1)
        | (refine wpList_store_mid rfl 102 (.tmp 5) (.tmp 17) rfl n1 0 (bys R).toArray rfl rfl (by rw [List.size_toArray, bys_length, HR.out.2.1]; exact fun j hj => ⟨by rw [Nat.zero_add, HO1.out.2.1 j (by rw [List.length_replicate]; exact hj)]; rfl, HO1.out.2.2.1 _⟩) (iblka HR.out.2.1) (all_oneCell_toArray (bys_one R)) ?_)
        | (go_at_call 52
           have hth : w1.there n1 0 (bys R).length := by rw [bys_length, HR.out.2.1]; exact fun j hj => ⟨by rw [Nat.zero_add, HO1.out.2.1 j (by rw [List.length_replicate]; exact hj)]; rfl, HO1.out.2.2.1 _⟩
           have HB2 : Hid (Below wr.heap.size wr (w1.setCells n1 0 (bys R))) := Lib.hid (below_setCells HO1.out.2.2.2.2 (Nat.le_of_eq HN1.out.symm) _ _)
           refine (clone8_any _ _ _ R _ (bts_range (World.rangeAt_setCells_same _ _ _ _ hth) HR.out.2.1 HR.out.2.2.1)).mono ?_
           rintro e w4 ⟨v4, rfl, hf4, hb4⟩
           obtain ⟨g4, o4, p4, rfl, hA4, hg4⟩ := fresh_slice hf4 (fun e => by have := HR.out.2.1; rw [e] at this; cases this)
           rw [HR.out.2.1] at hA4
           have HA4 := Lib.hid (And.intro hA4 (Nat.le_trans HB2.out.size hg4))
           have HB4 := Lib.hid (HB2.out.trans (hb4.mono HB2.out.size))
           try rw [HR.out.2.1]
           clear hth hf4 hA4 hg4 hb4)
        | (at_builtin; refine wp_append_at elemBs rfl (.tmp 18) (.tmp 21) rfl w.heap.size i (.slice la i lc) xs rfl ?hown ⟨w4.heap.size, 0, none⟩ 1 1 [.slice (some ⟨g4, o4, none⟩) 64 p4] rfl ?hm rfl ?hx ?hone ?hbb ?hbase ?hkk; (case hown => exact owns_later_r HO.out.1 (HB4.out.alloc HB4.out.size _)); (case hm => decide); (case hx => exact news_r w4 [.slice (some ⟨g4, o4, none⟩) 64 p4] _); (case hone => (intro u hu; simp only [List.mem_cons, List.mem_nil_iff, or_false] at hu; rcases hu with rfl; rfl)); (case hbb => omega); (case hbase => (have h1 := HW.out.size; have h2 := HB4.out.size; simp; omega)); intro v8 w8 hown8 hg8 hb8 hv8; have HO8 := Lib.hid (And.intro hown8 (And.intro hg8 hv8)); have HB8 := Lib.hid hb8; clear hown8 hg8 hb8 hv8))
      have hbo := BOwn.snoc (bs := L.take i) (by rw [HR.out.2.2.2.2]; exact HO.out.1) HO.out.2 HB4.out (lo := w.heap.size) ⟨by have h1 := HW.out.size; have h2 := HA4.out.2; omega, arg_lt HA4.out.1⟩ (fun e => by have h1 := (HO.out.1.lt _ e).2; have h2 := HA4.out.2; omega) HA4.out.1 (by rw [HR.out.2.2.2.2]; exact HO8.out.1) HO8.out.2.1 HO8.out.2.2
      rw [← HR.out.2.2.2.1] at hbo
      have b4 := HW.out.trans (HB4.out.mono HW.out.size)
      refine ⟨⟨i + 1, by omega, by go_num, Lib.hid ⟨hbo, (b4.alloc b4.size _).trans HB8.out⟩⟩, by simp [intOf]; omega⟩
    · have hit : i = n := by omega
      subst hit
      have hbo := HJ.out.1
      rw [List.take_of_length_le (by rw [HLN.out]; exact Nat.le_refl _)] at hbo
      have HBO := Lib.hid hbo
      have HW := Lib.hid HJ.out.2
      clear hbo HJ
      go_wp2_with fail
      go_ret
      exact ⟨_, rfl, HBO.out, HW.out⟩
end Go.Proofs.YtmcblhgpcgnaoaaGreatDoor


namespace Go.Proofs.YtmcblhgpcgnaoaaGreatDoor
open Go.RowKit
set_option linter.unusedVariables false
set_option linter.unusedSimpArgs false

def u8s (R : List Int) : List UInt8 := R.map fun z => UInt8.ofNat z.toNat
theorem u8s_back {R : List Int} (hz : ∀ z ∈ R, 0 ≤ z ∧ z ≤ 255) : (u8s R).map (fun b => (b.toNat : Int)) = R := by
  unfold u8s
  rw [List.map_map]
  conv => rhs; rw [← List.map_id R]
  refine List.map_congr_left (fun z h => ?_)
  have h1 := hz z h
  simp only [Function.comp_apply, UInt8.toNat_ofNat', id]
  omega
theorem u8s_cells {R : List Int} (hz : ∀ z ∈ R, 0 ≤ z ∧ z ≤ 255) : (u8s R).map Extern.Stop.cell = bys R := by
  unfold u8s bys
  rw [List.map_map]
  refine List.map_congr_left (fun z h => ?_)
  have h1 := hz z h
  simp only [Function.comp_apply, Extern.Stop.cell, UInt8.toNat_ofNat', Int.ofNat_eq_natCast]
  congr 1
  omega
theorem u8s_eq {R S : List Int} (hR : ∀ z ∈ R, 0 ≤ z ∧ z ≤ 255) (hS : ∀ z ∈ S, 0 ≤ z ∧ z ≤ 255) : (u8s R == u8s S) = decide (R = S) := by
  rw [Bool.eq_iff_iff, beq_iff_eq, decide_eq_true_iff]
  refine ⟨fun h => ?_, fun h => by rw [h]⟩
  rw [← u8s_back hR, ← u8s_back hS, h]
theorem sizeU8 (w : World) : (sizeOf 5).run Tryz.prog w = .ok 1 w := by
  obtain ⟨i, hi, h1⟩ := Option.map_eq_some_iff.1 size5
  rw [run_sizeOf w hi]
  unfold Program.cellsOf
  rw [hi]
  simp [h1]
theorem neq_blk {R S : List Int} (hR : R.length = 64 ∧ ∀ z ∈ R, 0 ≤ z ∧ z ≤ 255) (hS : S.length = 64 ∧ ∀ z ∈ S, 0 ≤ z ∧ z ≤ 255) (w : World) :
    (binOp .neq 102 (.agg (bys R).toArray) (.agg (bys S).toArray)).run Tryz.prog w = .ok (.bool (!decide (R = S))) w := by
  rw [run_neq_struct, ← u8s_cells hR.2, ← u8s_cells hS.2, run_equalIn_bytes w 9998 _ _ 64 ublk Tryz.underlying5 sizeU8 _ _ (by unfold u8s; rw [List.length_map]; exact hR.1) (by unfold u8s; rw [List.length_map]; exact hS.1), u8s_eq hR.2 hS.2]
  rfl

set_option maxRecDepth 100000 in
set_option maxHeartbeats 3200000 in
theorem ichanges_none {w : World} {a : Addr} {F : Nat → Prop} {I : Img} (h : ImgI w a F I) (hs : I.ly = I.bl) :
    Calls Tryz.prog 18 #[.pointer (some a)] w fun e w' => e = .returned (.slice none 0 0) ∧ Below w.heap.size w w' := by
  obtain ⟨p, gb, gl, gs, cb, cl, cs, rfl, h, rfl⟩ := h
  have hp := h.lt.1
  have HRW : Hid (∀ W, Below w.heap.size w W → Rw W gb I.bl) := Lib.hid (fun W hW => h.rb.later h.n0.1 hW)
  have HRL : Hid (∀ W, Below w.heap.size w W → Rw W gl I.bl) := Lib.hid (fun W hW => by
    have h2 := h.rl
    rw [hs] at h2
    exact h2.later h.n0.1 hW)
  have HN := Lib.hid (none_of h.c0 h.n0.1)
  have c0 := h.c0
  have c1 := h.c1
  have h480 := h.n0.2
  have hcb := h.kb
  have hcl := h.kl
  rw [hs] at c1 hcl
  obtain ⟨L, hL⟩ : ∃ L, I.bl = L := ⟨_, rfl⟩
  obtain ⟨n, hn⟩ : ∃ n, L.length = n := ⟨_, rfl⟩
  rw [hL] at c0 c1 h480 HRW HRL hcb hcl
  rw [hn] at c0 c1 h480 hcb hcl
  have HLN := Lib.hid hn
  have HC1 := Lib.hid c1
  clear h hL hn hs
  go_enter Tryz.func18, Tryz.ntmps18
  go_wp2_with (go_at_call 51; refine HN.out.mono ?_; rintro e w2 ⟨rfl, rfl⟩)
  have HJ0 : Hid (Below w.heap.size w w) := Lib.hid (Below.refl _ _)
  clear HN c0 c1
  go_loopw [3, 14] (fun vv iv wr => ∃ i : Nat, i ≤ n ∧ iv = .int .i64 i ∧ vv = .slice none 0 0 ∧ Hid (Below w.heap.size w wr)) (fun _ iv _ => n - (intOf iv).toNat)
  case atStart => exact ⟨0, Nat.zero_le _, rfl, rfl, HJ0⟩
  case round =>
    obtain ⟨i, hi, rfl, rfl, HJ⟩ := hrel
    clear HJ0
    by_cases hlt : i < n
    · have i2 : (i : Int) < n := by omega
      have hiL : i < L.length := by rw [HLN.out]; exact hlt
      obtain ⟨R, hR⟩ : ∃ R, L.getD i [] = R := ⟨_, rfl⟩
      have HR : Hid (wr.rangeAt gb (i * 64) (bys R) ∧ wr.rangeAt gl (i * 64) (bys R) ∧ R.length = 64 ∧ (∀ z ∈ R, 0 ≤ z ∧ z ≤ 255)) := Lib.hid (by
        have hr := HRW.out wr HJ.out
        have h1 := hr.range hiL
        have h3 := (HRL.out wr HJ.out).range hiL
        have h2 := hr.1.at hiL
        rw [hR] at h1 h2 h3
        exact ⟨h1, h3, h2.1, h2.2⟩)
      clear hR hiL
      go_wp2_with (first
        | (refine wpList_load_mid rfl 102 (.tmp 17) rfl gb (i * 64) rfl (bys R) _ HR.out.1 ublk rfl (iblk HR.out.2.2.1) ?_)
        | (refine wp_new_blk rfl rfl (some 5) rfl ?_; intro n1 w1 hn1 hw1; have HO1 := Lib.hid (new_own hn1 hw1); have HN1 := Lib.hid hn1; clear hn1 hw1)
        | (refine wpList_store_mid rfl 102 (.tmp 5) (.tmp 18) rfl n1 0 (bys R).toArray rfl rfl (by rw [List.size_toArray, bys_length, HR.out.2.2.1]; exact fun j hj => ⟨by rw [Nat.zero_add, HO1.out.2.1 j (by rw [List.length_replicate]; exact hj)]; rfl, HO1.out.2.2.1 _⟩) (iblka HR.out.2.2.1) (all_oneCell_toArray (bys_one R)) ?_))
      have hth : w1.there n1 0 (bys R).length := by rw [bys_length, HR.out.2.2.1]; exact fun j hj => ⟨by rw [Nat.zero_add, HO1.out.2.1 j (by rw [List.length_replicate]; exact hj)]; rfl, HO1.out.2.2.1 _⟩
      have HB2 : Hid (Below wr.heap.size wr (w1.setCells n1 0 (bys R))) := Lib.hid (below_setCells HO1.out.2.2.2.2 (Nat.le_of_eq HN1.out.symm) _ _)
      have HX2 := Lib.hid (World.rangeAt_setCells_same _ _ _ _ hth)
      have HY2 : Hid (((w1.setCells n1 0 (bys R)).drew).rangeAt gl (i * 64) (bys R) ∧ ((w1.setCells n1 0 (bys R)).drew).cell? ⟨p, 1, none⟩ = some (.slice (some ⟨gl, 0, none⟩) n cl)) := Lib.hid ⟨(World.rangeAt_drew _ _ _ _).2 (fun j v hv => cell_later HB2.out (HR.out.2.1 j v hv)), by
        have b := HJ.out.trans (HB2.out.mono HJ.out.size)
        show (w1.setCells n1 0 (bys R)).cell? ⟨p, 1, none⟩ = _
        rw [b.cell (p := ⟨p, 1, none⟩) hp]
        exact HC1.out⟩
      have HNE := Lib.hid (neq_blk (R := R) (S := R) HR.out.2.2 HR.out.2.2)
      have HX3 : Hid (((w1.setCells n1 0 (bys R)).drew).rangeAt n1 0 (bys R)) := Lib.hid ((World.rangeAt_drew _ _ _ _).2 HX2.out)
      clear hth
      refine wp_region_still_lit (by kernel_rfl) (by kernel_rfl) ?_
      try rw [drew_eq17]
      generalize hw3 : (w1.setCells n1 0 (bys R)).drew = w3 at HY2 HX3 ⊢
      have q1 := HY2.out.2
      refine still_blk rfl (.tmp 5) rfl (some 19) rfl n1 0 rfl R HX3.out HR.out.2.2.1 ?_
      iterate 7 still_step
      refine still_blk rfl (.tmp 26) rfl (some 27) rfl gl (i * 64) rfl R HY2.out.1 HR.out.2.2.1 ?_
      have hne := HNE.out
      rw [show decide (R = R) = true from decide_eq_true rfl] at hne
      still_step
      refine wpStill_nil ?_
      go_wp2_with fail
      exact ⟨⟨i + 1, by omega, by go_num, rfl, Lib.hid (by rw [← hw3]; exact (HJ.out.trans (HB2.out.mono HJ.out.size)).drew)⟩, by simp [intOf]; omega⟩
    · have hit : i = n := by omega
      subst hit
      clear HRW HRL
      go_wp2_with fail
      go_ret
      exact ⟨rfl, HJ.out⟩
end Go.Proofs.YtmcblhgpcgnaoaaGreatDoor


namespace Go.Proofs.YtmcblhgpcgnaoaaGreatDoor
open Go.RowKit
set_option linter.unusedVariables false
set_option linter.unusedSimpArgs false

theorem rows_ext {X Y : List (List Int)} (hl : X.length = Y.length) (h : ∀ j, j < X.length → X.getD j [] = Y.getD j []) : X = Y := by
  refine List.ext_getElem hl (fun j h1 h2 => ?_)
  have e := h j h1
  rwa [List.getD_eq_getElem?_getD, List.getD_eq_getElem?_getD, List.getElem?_eq_getElem h1, List.getElem?_eq_getElem h2] at e

set_option maxRecDepth 100000 in
set_option maxHeartbeats 3200000 in
theorem RSame17_any {ao bo : Option Addr} {m n c1 c2 : Nat} {X Y : List (List Int)} (w : World) (hX : RowsIn w ao m c1 X) (hY : RowsIn w bo n c2 Y) (hm : m ≤ 140737488351232) :
    Calls Tryz.prog 13 #[.slice ao m c1, .slice bo n c2] w fun e w' => e = .returned (.bool (decide (X = Y))) ∧ Below w.heap.size w w' := by
  have HX := Lib.hid hX
  have HY := Lib.hid hY
  have hlx := hX.1
  have hly := hY.1
  clear hX hY
  by_cases hmn : m = n
  · subst hmn
    have HL : Hid (X.length = m ∧ Y.length = m) := Lib.hid ⟨hlx, hly⟩
    clear hlx hly
    go_enter Tryz.func13, Tryz.ntmps13
    go_wp2_with fail
    have HT0 : Hid (∀ j, j < 0 → X.getD j [] = Y.getD j []) := Lib.hid (fun j hj => by omega)
    have HB0 : Hid (Below w.heap.size w w) := Lib.hid (Below.refl _ _)
    go_loopw [5] (fun iv wr => ∃ i : Nat, iv = .int .i64 (i : Int) ∧ i ≤ m ∧ Hid (∀ j, j < i → X.getD j [] = Y.getD j []) ∧ Hid (Below w.heap.size w wr)) (fun iv _ => m - (intOf iv).toNat)
    case atStart => exact ⟨0, rfl, Nat.zero_le _, HT0, HB0⟩
    case round =>
      obtain ⟨i, rfl, hi, HT, HB⟩ := hrel
      clear HT0 HB0
      by_cases hlt : i < m
      · obtain ⟨b1, o1, ad1, l1, k1, rfl, d1, q1⟩ := (HX.out.later HB.out).at hlt
        obtain ⟨b2, o2, ad2, l2, k2, rfl, d2, q2⟩ := (HY.out.later HB.out).at hlt
        have i1 : (i : Int) < (m : Int) := by omega
        obtain ⟨x, hx⟩ : ∃ x, X.getD i [] = x := ⟨_, rfl⟩
        obtain ⟨y, hy⟩ : ∃ y, Y.getD i [] = y := ⟨_, rfl⟩
        rw [hx] at q1
        rw [hy] at q2
        have hs := str_eq q1.2.2.1 q2.2.2.1
        have HXI := Lib.hid hx
        have HYI := Lib.hid hy
        go_wp2_with fail
        have e1 := (World.cell?_drew wr ⟨b1, o1 + i, none⟩).trans d1
        have e2 := (World.cell?_drew wr ⟨b2, o2 + i, none⟩).trans d2
        have s1 := str_bytes (cap := k1) (show Bts wr.drew ad1 l1 x from q1)
        have s2 := str_bytes (cap := k2) (show Bts wr.drew ad2 l2 y from q2)
        refine wp_region_still_lit (by kernel_rfl) (by kernel_rfl) ?_
        try rw [drew_eq17]
        generalize hw3 : wr.drew = w3 at e1 e2 s1 s2 ⊢
        have HB3 : Hid (Below w.heap.size w w3) := Lib.hid (by rw [← hw3]; exact HB.out.drew)
        by_cases hxy : x = y
        · have he : decide (x = y) = true := decide_eq_true hxy
          rw [he] at hs
          repeat still_step
          refine wpStill_nil ?_
          go_wp2_with fail
          refine ⟨⟨i + 1, by go_num, by omega, Lib.hid (fun j hj => ?_), HB3⟩, by simp [intOf]; omega⟩
          by_cases ej : j = i
          · rw [ej, HXI.out, HYI.out, hxy]
          · exact HT.out j (by omega)
        · have he : decide (x = y) = false := decide_eq_false hxy
          rw [he] at hs
          have h2 : decide (X = Y) = false := decide_eq_false (fun e => hxy (by rw [← hx, ← hy, e]))
          repeat still_step
          refine wpStill_nil ?_
          go_wp2_with fail
          go_ret
          exact ⟨by rw [h2]; rfl, HB3.out⟩
      · have hit : i = m := by omega
        subst hit
        have h2 : decide (X = Y) = true := decide_eq_true (rows_ext (by rw [HL.out.1, HL.out.2]) (fun j hj => HT.out j (by rw [HL.out.1] at hj; exact hj)))
        go_wp2_with fail
        go_ret
        exact ⟨by rw [h2]; rfl, HB.out⟩
  · go_enter Tryz.func13, Tryz.ntmps13
    have h1 : ((m : Int) == (n : Int)) = false := by simp; omega
    have h2 : decide (X = Y) = false := decide_eq_false (fun e => hmn (by rw [← hlx, ← hly, e]))
    rw [h2]
    go_wp2_with fail
    go_ret
    exact ⟨rfl, Below.refl _ _⟩
end Go.Proofs.YtmcblhgpcgnaoaaGreatDoor


namespace Go.Proofs.YtmcblhgpcgnaoaaGreatDoor
set_option linter.unusedVariables false
set_option linter.unusedSimpArgs false

theorem high_withNode (B : List (List Int)) (n j : Nat) (x : PNode) (hj : j ≠ 3 + n / 2) : (withNode B n x).getD j [] = B.getD j [] := by
  unfold withNode
  rw [gets_set, if_neg (fun e => hj e.1.symm)]
theorem high_freeNodes (B : List (List Int)) (j : Nat) (hj : 19 ≤ j) : ∀ n, n ≤ 32 → (freeNodes B n).getD j [] = B.getD j []
  | 0, _ => rfl
  | n + 1, hn => by
    show (withNode (freeNodes B n) n noNode).getD j [] = _
    rw [high_withNode _ _ _ _ (by omega), high_freeNodes B j hj n (by omega)]
theorem emptyP_high {n : Nat} (f : Int) (j : Nat) (hj : 19 ≤ j) : (emptyP n f).getD j [] = (List.replicate n z64).getD j [] := by
  rw [emptyP_is, high_withNode _ _ _ _ (by omega), high_freeNodes _ j hj 32 (by decide)]
  unfold bareP withFlags
  rw [gets_set, if_neg (fun e => by omega), gets_set, if_neg (fun e => by omega)]
  unfold withSuper
  rw [gets_set, if_neg (fun e => by omega)]
theorem halves {R : List Int} (h : R.length = 64) : (R.drop 0).take 32 ++ (R.drop 32).take 32 = R := by
  rw [List.drop_zero, List.take_of_length_le (l := R.drop 32) (by rw [List.length_drop]; omega), List.take_append_drop]
theorem emptyP_mid {n : Nat} {f : Int} (h : 64 ≤ n) (hf : 1 ≤ f ∧ f ≤ 2) (j : Nat) (h3 : 3 ≤ j) (h19 : j < 19) : (emptyP n f).getD j [] = node32 (if j = 3 then rootN f else noNode) ++ node32 noNode := by
  have hl := emptyP_64 f h j (by rw [emptyP_length]; omega)
  have a := half_emptyP h hf (2 * (j - 3)) (by omega)
  have b := half_emptyP h hf (2 * (j - 3) + 1) (by omega)
  rw [if_neg (by omega)] at b
  unfold halfAt at a b
  rw [show 3 + 2 * (j - 3) / 2 = j by omega, show 2 * (j - 3) % 2 = 0 by omega, Nat.zero_mul] at a
  rw [show 3 + (2 * (j - 3) + 1) / 2 = j by omega, show (2 * (j - 3) + 1) % 2 = 1 by omega, Nat.one_mul] at b
  rw [← halves hl, a, b]
  by_cases e : j = 3
  · rw [if_pos e, if_pos (by omega)]
  · rw [if_neg e, if_neg (by omega)]

/-- What Mark of the first 59 blocks hands back. -/
def upE : List Int := markP (List.replicate 60 0) true [(0, 59)]
theorem upE_length : upE.length = 60 := markP_length _ _ _
/-- The blocks of nodes ahead of 3 + m hold two Free nodes each. -/
def setsN (L : List (List Int)) : Nat → List (List Int)
  | 0 => L
  | m + 1 => (setsN L m).set (3 + m) (node32 noNode ++ node32 noNode)
theorem setsN_length (L : List (List Int)) : ∀ m, (setsN L m).length = L.length
  | 0 => rfl
  | m + 1 => by show ((setsN L m).set _ _).length = _; rw [List.length_set, setsN_length L m]
theorem setsN_get (L : List (List Int)) (h : 19 ≤ L.length) : ∀ m, m ≤ 16 → ∀ j, (setsN L m).getD j [] = if 3 ≤ j ∧ j < 3 + m then node32 noNode ++ node32 noNode else L.getD j []
  | 0, _, j => by rw [if_neg (by omega)]; rfl
  | m + 1, hm, j => by
    show ((setsN L m).set (3 + m) _).getD j [] = _
    rw [gets_set, setsN_length]
    by_cases e : 3 + m = j
    · rw [if_pos ⟨e, by omega⟩, if_pos (by omega)]
    · rw [if_neg (fun k => e k.1), setsN_get L h m (by omega) j]
      by_cases e2 : 3 ≤ j ∧ j < 3 + m
      · rw [if_pos e2, if_pos (by omega)]
      · rw [if_neg e2, if_neg (by omega)]
/-- What the document's Empty sets. -/
def rowsE (n : Nat) (f : Int) : List (List Int) := ((((List.replicate n z64).set 0 (supBlock ⟨n, f, 0, 0, 0⟩)).set 1 (headBlock ⟨0, 1⟩)).set 2 (sealOf sumS upE))
theorem rowsE_is {n : Nat} {f : Int} (h : 64 ≤ n) (hf : 1 ≤ f ∧ f ≤ 2) : (setsN (rowsE n f) 16).set 3 (node32 (rootN f) ++ node32 noNode) = emptyP n f := by
  have hl : (rowsE n f).length = n := by
    unfold rowsE
    rw [List.length_set, List.length_set, List.length_set, List.length_replicate]
  have hlow := emptyP_low f h
  refine rows_ext (by rw [List.length_set, setsN_length, hl, emptyP_length]) (fun j hj => ?_)
  rw [List.length_set, setsN_length, hl] at hj
  rw [gets_set, setsN_length, setsN_get _ (by omega) 16 (by decide)]
  by_cases e3 : 3 = j
  · subst e3
    rw [if_pos ⟨rfl, by omega⟩, emptyP_mid h hf 3 (by decide) (by decide), if_pos rfl]
  · rw [if_neg (fun k => e3 k.1)]
    by_cases e : 3 ≤ j ∧ j < 3 + 16
    · rw [if_pos e, emptyP_mid h hf j (by omega) (by omega), if_neg (by omega)]
    · rw [if_neg e]
      by_cases e19 : 19 ≤ j
      · rw [emptyP_high f j e19]
        unfold rowsE
        rw [gets_set, if_neg (fun e => by omega), gets_set, if_neg (fun e => by omega), gets_set, if_neg (fun e => by omega)]
      · have h2 : j = 0 ∨ j = 1 ∨ j = 2 := by omega
        unfold rowsE
        rw [gets_set, gets_set, gets_set]
        simp only [List.length_set, List.length_replicate]
        rcases h2 with rfl | rfl | rfl
        · rw [if_neg (by omega), if_neg (by omega), if_pos ⟨rfl, by omega⟩, hlow.1]
        · rw [if_neg (by omega), if_pos ⟨rfl, by omega⟩, hlow.2.1]
        · rw [if_pos ⟨rfl, by omega⟩, hlow.2.2]
          rfl
end Go.Proofs.YtmcblhgpcgnaoaaGreatDoor


namespace Go.Proofs.YtmcblhgpcgnaoaaGreatDoor
open Go.RowKit
set_option linter.unusedVariables false
set_option linter.unusedSimpArgs false

set_option maxRecDepth 100000 in
theorem free_upE : ∀ n, n < 481 → 64 ≤ n → freeOf upE n = (n : Int) - 59 := by decide +kernel
theorem free_emptyP {n : Nat} {f : Int} (h : 64 ≤ n) (h2 : n ≤ 480) (hf : 1 ≤ f ∧ f ≤ 2) : freeB (emptyP n f) = (n : Int) - 59 := by
  unfold freeB
  rw [flags_emptyP f h, (sup_emptyP h h2 hf).2]
  exact free_upE n (by omega) h
theorem isuper_empty {w : World} {a : Addr} {F : Nat → Prop} {n : Nat} {f : Int} {ly st : List (List Int)} (h : ImgI w a F ⟨emptyP n f, ly, st⟩) (h1 : 64 ≤ n) (h2 : n ≤ 480) (hf : 1 ≤ f ∧ f ≤ 2) :
    Calls Tryz.prog 16 #[.pointer (some a)] w fun e w' => e = .returned (.agg #[.int .i64 n, .int .i64 f, .int .i64 0, .int .i64 0, .int .i64 0]) ∧ Below w.heap.size w w' := by
  have hV := vol_emptyP h1 h2 hf
  have hS := (sup_emptyP h1 h2 hf).2
  generalize emptyP n f = B at h hV hS
  have c := isuper_any h hV
  dsimp only at c
  rw [hS] at c
  exact c
theorem ifree_empty {w : World} {a : Addr} {F : Nat → Prop} {n : Nat} {f : Int} {ly st : List (List Int)} (h : ImgI w a F ⟨emptyP n f, ly, st⟩) (h1 : 64 ≤ n) (h2 : n ≤ 480) (hf : 1 ≤ f ∧ f ≤ 2) :
    Calls Tryz.prog 17 #[.pointer (some a)] w fun e w' => e = .returned (.int .i64 ((n : Int) - 59)) ∧ Below w.heap.size w w' := by
  have hV := vol_emptyP h1 h2 hf
  have hS := free_emptyP h1 h2 hf
  generalize emptyP n f = B at h hV hS
  have c := free_any h hV
  dsimp only at c
  rw [hS] at c
  exact c
theorem iblocks_empty {w : World} {a : Addr} {F : Nat → Prop} {n : Nat} {f : Int} {ly st : List (List Int)} (h : ImgI w a F ⟨emptyP n f, ly, st⟩) (h1 : 64 ≤ n) :
    Calls Tryz.prog 14 #[.pointer (some a)] w fun e w' => ∃ ao cap, e = .returned (.slice ao n cap) ∧ RowsIn w' ao n cap (emptyP n f) ∧ Below w.heap.size w w' := by
  have hl := emptyP_length n f
  generalize emptyP n f = B at h hl ⊢
  refine (iblocks_any h).mono ?_
  rintro e w' ⟨v, rfl, ho, hb⟩
  dsimp only at ho
  obtain ⟨g, cap, rfl, hc, hg, hr⟩ := ho.rows (by omega)
  have h0 := hr 0 n (by omega)
  rw [List.drop_zero, List.take_of_length_le (by omega), Nat.sub_zero] at h0
  rw [hl]
  exact ⟨_, _, rfl, h0, hb⟩
end Go.Proofs.YtmcblhgpcgnaoaaGreatDoor


namespace Go.Proofs.YtmcblhgpcgnaoaaGreatDoor
open Go.RowKit
set_option linter.unusedVariables false
set_option linter.unusedSimpArgs false

/-- A list of blocks of 64 bytes in block g, each text elsewhere. -/
def BRow (base : Nat) (w0 : World) (g : Nat) (L : List (List Int)) (w : World) : Prop :=
  ∃ xs, xs.length = L.length ∧ OwnV base w0 g xs w ∧ ∀ (j : Nat) (zs : List Int), L[j]? = some zs → ∃ db off cap, xs[j]? = some (.slice (some ⟨db, off, none⟩) 64 cap) ∧ db ≠ g ∧ Arg w (some ⟨db, off, none⟩) 64 cap zs
theorem BRow.below {base g : Nat} {w0 w : World} {L : List (List Int)} (h : BRow base w0 g L w) : Below base w0 w := by
  obtain ⟨xs, _, h2, _⟩ := h
  exact h2.2.2.2
theorem BRow.later {base g : Nat} {w0 w w' : World} {L : List (List Int)} (h : BRow base w0 g L w) (hb : Below w.heap.size w w') (h0 : L ≠ []) : BRow base w0 g L w' := by
  obtain ⟨xs, h1, h2, h3⟩ := h
  refine ⟨xs, h1, h2.later hb (fun e => h0 (List.length_eq_zero_iff.1 (by rw [← h1, e]; rfl))), fun j zs hj => ?_⟩
  obtain ⟨d, o, c, c1, c2, c3⟩ := h3 j zs hj
  exact ⟨d, o, c, c1, c2, c3.later hb⟩
theorem arg_setCell {w : World} {db off cap n : Nat} {zs : List Int} {p : Addr} {v : Value} (h : Arg w (some ⟨db, off, none⟩) n cap zs) (hp : p.block ≠ db) : Arg (w.setCell p v) (some ⟨db, off, none⟩) n cap zs := by
  obtain ⟨⟨h1, h2, h3, h4⟩, h5, h6, h7⟩ := h
  refine ⟨⟨h1, h2, h3, h4.imp_right ?_⟩, h5, h6, h7⟩
  rintro ⟨b', o', e, hc⟩
  cases e
  exact ⟨db, off, rfl, fun j hj => by rw [World.cell?_setCell_other (h := fun e => hp (by rw [e]))]; exact hc j hj⟩
theorem BRow.set {base g k : Nat} {w0 w : World} {L : List (List Int)} {zs : List Int} {db off cap : Nat} (h : BRow base w0 g L w) (hk : k < L.length) (hd : db ≠ g) (hA : Arg w (some ⟨db, off, none⟩) 64 cap zs) :
    BRow base w0 g (L.set k zs) (w.setCell ⟨g, k, none⟩ (.slice (some ⟨db, off, none⟩) 64 cap)) := by
  obtain ⟨xs, h1, h2, h3⟩ := h
  refine ⟨xs.set k (.slice (some ⟨db, off, none⟩) 64 cap), by rw [List.length_set, List.length_set, h1], h2.store (by omega), fun j ys hj => ?_⟩
  rw [List.getElem?_set] at hj ⊢
  by_cases e : k = j
  · rw [if_pos e, if_pos (by omega)] at hj
    rw [if_pos e, if_pos (by omega)]
    cases hj
    exact ⟨db, off, cap, rfl, hd, arg_setCell hA (fun e => hd e.symm)⟩
  · rw [if_neg e] at hj
    rw [if_neg e]
    obtain ⟨d, o, c, c1, c2, c3⟩ := h3 j ys hj
    exact ⟨d, o, c, c1, c2, arg_setCell c3 (fun e => c2 e.symm)⟩
theorem BRow.cell {base g k : Nat} {w0 w : World} {L : List (List Int)} (h : BRow base w0 g L w) (hk : k < L.length) : ∃ v, w.cell? ⟨g, k, none⟩ = some v := by
  obtain ⟨xs, h1, h2, h3⟩ := h
  exact ⟨_, h2.1 k _ (List.getElem?_eq_getElem (by omega))⟩
theorem BRow.fz {base g : Nat} {w0 w : World} {L : List (List Int)} (h : BRow base w0 g L w) (k : Nat) : w.frozen? ⟨g, k, none⟩ = false := by
  obtain ⟨xs, h1, h2, h3⟩ := h
  exact h2.2.1 k
theorem brow_of_own {base lo : Nat} {w0 w : World} {v : Value} {L : List (List Int)} (h : BOwn base lo w v L) (hn : 0 < L.length) (hb : Below base w0 w) : ∃ g cap, v = .slice (some ⟨g, 0, none⟩) L.length cap ∧ L.length ≤ cap ∧ BRow base w0 g L w := by
  obtain ⟨xs, ho, hx⟩ := h
  have hxl : xs.length = L.length := by have := ho.1; omega
  rcases ho.2 with ⟨_, h0⟩ | ⟨g, cap, cur, hv, hg, hh, hc, _⟩
  · omega
  · have hv2 := hv
    rw [hv] at ho
    refine ⟨g, cap, hv, hc, xs, hxl, ⟨fun j x hj => ?_, fun j => ho.frozenAt j, hg, hb⟩, fun j zs hj => ?_⟩
    · have e := ho.cells (g := g) rfl _ _ hj
      rwa [Go.WideShapes.add_plain, Nat.zero_add] at e
    · obtain ⟨d, o, c, c1, c2, c3, c4⟩ := hx j zs hj
      exact ⟨d, o, c, c1, fun e => c3 (by rw [hv, e]; rfl), c4⟩
theorem BRow.rows {base g : Nat} {w0 w : World} {L : List (List Int)} (h : BRow base w0 g L w) {cap : Nat} (hc : L.length ≤ cap) : RowsIn w (some ⟨g, 0, none⟩) L.length cap L := by
  obtain ⟨xs, h1, h2, h3⟩ := h
  refine ⟨rfl, hc, Or.inr ⟨g, 0, rfl, fun j hj => ?_⟩⟩
  obtain ⟨d, o, c, c1, c2, c3⟩ := h3 j _ (List.getElem?_eq_getElem hj)
  refine ⟨_, 64, c, by rw [Nat.zero_add]; exact h2.1 j _ c1, ?_, c3.2.2.1⟩
  rw [List.getD_eq_getElem?_getD, List.getElem?_eq_getElem hj]
  exact c3.1
end Go.Proofs.YtmcblhgpcgnaoaaGreatDoor


namespace Go.Proofs.YtmcblhgpcgnaoaaGreatDoor
open Go.RowKit
set_option linter.unusedVariables false
set_option linter.unusedSimpArgs false

/-- The blocks from a to m. -/
def oneF (a m n : Nat) : Bool := decide (a ≤ n ∧ n < m)
theorem oneF_none (a : Nat) : boolsV (oneF a a) 480 = boolsV (fun _ => false) 480 := boolsV_congr (fun n _ => by unfold oneF; exact decide_eq_false (by omega))
theorem oneF_next {a k : Nat} (h : a ≤ k) (hk : k < 480) : (boolsV (oneF a k) 480).set k (.bool true) = boolsV (oneF a (k + 1)) 480 := by
  rw [boolsV_set _ hk]
  refine boolsV_congr (fun n _ => ?_)
  unfold oneF
  by_cases e : n = k
  · rw [if_pos e]; exact (decide_eq_true (by omega)).symm
  · rw [if_neg e]
    by_cases h2 : a ≤ n ∧ n < k
    · rw [decide_eq_true h2, decide_eq_true (by omega)]
    · rw [decide_eq_false h2, decide_eq_false (by omega)]
theorem made_bools (w : World) : OwnV w.heap.size w w.heap.size (boolsV (fun _ => false) 480) (w.alloc (.cells (madeCells (Value.bool false).cells 480) 4)) := by
  refine ⟨fun j x hj => ?_, fun j => by rw [World.frozen?_alloc_mark]; simp, Nat.le_refl _, (Below.refl _ _).alloc (Nat.le_refl _) _⟩
  have hlt : j < 480 := by have h := (List.getElem?_eq_some_iff.1 hj).1; rwa [boolsV_length] at h
  rw [boolsV_at _ hlt] at hj
  rw [World.cell?_alloc_new, ← hj]
  simp [madeCells, hlt, Nat.mod_one, Value.cells]
theorem freshV_of_own {w0 w : World} {g : Nat} {xs : List Value} {base : Nat} (h : OwnV base w0 g xs w) (hl : xs.length ≤ 140737488351232) : FreshV w base (.slice (some ⟨g, 0, none⟩) xs.length xs.length) xs :=
  ⟨_, xs.length, rfl, h.vals hl, Nat.le_refl _, Or.inr ⟨g, rfl, h.2.2.1, h.2.1⟩⟩

set_option maxRecDepth 100000 in
set_option maxHeartbeats 1600000 in
theorem Blocks02_one {w : World} {g o c x y a b : Nat} (hc : w.cell? ⟨g, o, none⟩ = some (.complex .f64 x y)) (hx : FI x a) (hy : FI y b) (hb : 1 ≤ b) (hab : a + b ≤ 480) :
    Calls Tryz.prog 103 #[.slice (some ⟨g, o, none⟩) 1 c] w fun e w' => ∃ v, e = .returned (.tuple #[v, .bool true]) ∧ FreshV w' w.heap.size v (boolsV (oneF a (a + b)) 480) ∧ Below w.heap.size w w' := by
  have hmk := run_make_vals elemBool w 480 (by decide)
  rw [show ((480 : Nat) : Int) = 480 from rfl] at hmk
  have HP : Hid (∀ W, Calls Tryz.prog 131 #[.complex .f64 x y] W (Tells W.heap.size W (.tuple #[.int .i64 (a : Int), .int .i64 (b : Int), .bool true]))) := Lib.hid (fun W => Parts02c_any x y (a : Int) (b : Int) W hx hy (by omega) (by omega) (by omega))
  have HC := Lib.hid hc
  have HO0 := Lib.hid (made_bools w)
  obtain ⟨q, hq⟩ : ∃ q, w.heap.size = q := ⟨_, rfl⟩
  have HQ := Lib.hid hq
  rw [hq] at hmk HO0
  clear hc hx hy hq
  go_enter Tryz.func103, Tryz.ntmps103
  go_wp2_with fail
  clear hmk
  have HJ0 : Hid (OwnV q w q (boolsV (oneF a (a + 0 * b)) 480) (w.alloc (.cells (madeCells (Value.bool false).cells 480) 4))) := Lib.hid (by
    rw [Nat.zero_mul, Nat.add_zero, oneF_none]
    exact HO0.out)
  clear HO0
  go_loopw [5] (fun iv wr => ∃ i : Nat, i ≤ 1 ∧ iv = .int .i64 (i : Int) ∧ Hid (OwnV q w q (boolsV (oneF a (a + i * b)) 480) wr)) (fun iv _ => 1 - (intOf iv).toNat)
  case atStart => exact ⟨0, by decide, rfl, HJ0⟩
  case round =>
    obtain ⟨i, hi, rfl, HJ⟩ := hrel
    clear HJ0
    by_cases hlt : i < 1
    · have h0 : i = 0 := by omega
      subst h0
      have hcell := (show wr.cell? ⟨g, o, none⟩ = some (.complex .f64 x y) from cell_later (HQ.out ▸ HJ.out.2.2.2) HC.out)
      go_wp2_with (go_at_call 131; refine (HP.out _).mono ?_; rintro e w2 ⟨rfl, hb2⟩; have HO2 := Lib.hid (HJ.out.later hb2 (by rw [ne_eq, ← List.length_eq_zero_iff, boolsV_length]; decide)); clear hb2 hcell HP)
      rw [Nat.zero_mul, Nat.add_zero] at HO2
      clear HJ
      have hab2 : (a : Int) + (b : Int) ≤ 480 := by omega
      go_loopw [9] (fun kv wk => ∃ k : Nat, a ≤ k ∧ k ≤ a + b ∧ kv = .int .i64 (k : Int) ∧ Hid (OwnV q w q (boolsV (oneF a k) 480) wk)) (fun kv _ => a + b - (intOf kv).toNat)
      case atStart => exact ⟨a, Nat.le_refl _, by omega, rfl, HO2⟩
      case round =>
        obtain ⟨k, hk1, hk2, rfl, HK⟩ := hrel
        clear HO2
        by_cases hkl : k < a + b
        · have i2 : (k : Int) < (a : Int) + (b : Int) := by omega
          have k0 : (0 : Int) ≤ (k : Int) := by omega
          have k4 : (k : Int) < 480 := by omega
          have k5 : k < 480 := by omega
          have hf := HK.out.2.1 k
          have hce := HK.out.1 k _ (boolsV_at _ k5)
          go_wp2_with fail
          have HS := Lib.hid (HK.out.store (k := k) (y := .bool true) (by rw [boolsV_length]; omega))
          rw [oneF_next hk1 k5] at HS
          exact ⟨⟨k + 1, by omega, by omega, by go_num, HS⟩, by simp [intOf]; omega⟩
        · have hkk : k = a + b := by omega
          have i3 : (k : Int) = (a : Int) + (b : Int) := by omega
          have hn : decide ((k : Int) < (a : Int) + (b : Int)) = false := decide_eq_false (by omega)
          go_wp2_with fail
          exact ⟨⟨1, by decide, by go_num, Lib.hid (by rw [Nat.one_mul, ← hkk]; exact HK.out)⟩, by simp [intOf]⟩
    · have h1 : i = 1 := by omega
      subst h1
      go_wp2_with fail
      go_ret2
      have ho := HJ.out
      rw [Nat.one_mul] at ho
      have hf := freshV_of_own ho (by rw [boolsV_length]; decide)
      rw [boolsV_length] at hf
      rw [HQ.out]
      exact ⟨_, rfl, hf, ho.2.2.2⟩

/-! ### Map -/
/-- The flags ahead of n. -/
def below (f : Nat → Bool) (n m : Nat) : Bool := if m < n then f m else false
theorem bitV_t (k : Nat) : bitV true k = 2 ^ k := rfl
theorem bitV_f (k : Nat) : bitV false k = 0 := rfl
theorem byte_up {g h : Nat → Bool} {q r : Nat} (hr : r < 8) (hg : g (8 * q + r) = false) (hh : h (8 * q + r) = true) (ho : ∀ m, m ≠ 8 * q + r → h m = g m) : byteOf h q = byteOf g q + 2 ^ r := by
  unfold byteOf
  match r, hr with
  | 0, _ => rw [Nat.add_zero] at hg hh ho; rw [hh, hg, ho (8 * q + 1) (by omega), ho (8 * q + 2) (by omega), ho (8 * q + 3) (by omega), ho (8 * q + 4) (by omega), ho (8 * q + 5) (by omega), ho (8 * q + 6) (by omega), ho (8 * q + 7) (by omega), bitV_t, bitV_f]; omega
  | 1, _ => rw [hh, hg, ho (8 * q) (by omega), ho (8 * q + 2) (by omega), ho (8 * q + 3) (by omega), ho (8 * q + 4) (by omega), ho (8 * q + 5) (by omega), ho (8 * q + 6) (by omega), ho (8 * q + 7) (by omega), bitV_t, bitV_f]; omega
  | 2, _ => rw [hh, hg, ho (8 * q) (by omega), ho (8 * q + 1) (by omega), ho (8 * q + 3) (by omega), ho (8 * q + 4) (by omega), ho (8 * q + 5) (by omega), ho (8 * q + 6) (by omega), ho (8 * q + 7) (by omega), bitV_t, bitV_f]; omega
  | 3, _ => rw [hh, hg, ho (8 * q) (by omega), ho (8 * q + 1) (by omega), ho (8 * q + 2) (by omega), ho (8 * q + 4) (by omega), ho (8 * q + 5) (by omega), ho (8 * q + 6) (by omega), ho (8 * q + 7) (by omega), bitV_t, bitV_f]; omega
  | 4, _ => rw [hh, hg, ho (8 * q) (by omega), ho (8 * q + 1) (by omega), ho (8 * q + 2) (by omega), ho (8 * q + 3) (by omega), ho (8 * q + 5) (by omega), ho (8 * q + 6) (by omega), ho (8 * q + 7) (by omega), bitV_t, bitV_f]; omega
  | 5, _ => rw [hh, hg, ho (8 * q) (by omega), ho (8 * q + 1) (by omega), ho (8 * q + 2) (by omega), ho (8 * q + 3) (by omega), ho (8 * q + 4) (by omega), ho (8 * q + 6) (by omega), ho (8 * q + 7) (by omega), bitV_t, bitV_f]; omega
  | 6, _ => rw [hh, hg, ho (8 * q) (by omega), ho (8 * q + 1) (by omega), ho (8 * q + 2) (by omega), ho (8 * q + 3) (by omega), ho (8 * q + 4) (by omega), ho (8 * q + 5) (by omega), ho (8 * q + 7) (by omega), bitV_t, bitV_f]; omega
  | 7, _ => rw [hh, hg, ho (8 * q) (by omega), ho (8 * q + 1) (by omega), ho (8 * q + 2) (by omega), ho (8 * q + 3) (by omega), ho (8 * q + 4) (by omega), ho (8 * q + 5) (by omega), ho (8 * q + 6) (by omega), bitV_t, bitV_f]; omega
theorem byte_same {g h : Nat → Bool} {i : Nat} (ho : ∀ k, k < 8 → h (8 * i + k) = g (8 * i + k)) : byteOf h i = byteOf g i := by
  unfold byteOf
  have h0 := ho 0 (by decide)
  rw [Nat.add_zero] at h0
  rw [h0, ho 1 (by decide), ho 2 (by decide), ho 3 (by decide), ho 4 (by decide), ho 5 (by decide), ho 6 (by decide), ho 7 (by decide)]
theorem map_up {f : Nat → Bool} {n q r : Nat} (hr : r < 8) (hq : q < 60) (hn : n = 8 * q + r) (hf : f n = true) : (ofFlags (below f n)).set q ((ofFlags (below f n)).getD q 0 + 2 ^ r) = ofFlags (below f (n + 1)) := by
  rw [ofFlags_get _ hq]
  refine List.ext_getElem (by rw [List.length_set, ofFlags_length, ofFlags_length]) (fun i h1 h2 => ?_)
  rw [ofFlags_length] at h2
  have e : ∀ {g : Nat → Bool} (h : i < (ofFlags g).length), (ofFlags g)[i] = byteOf g i := fun {g} h => by
    have := ofFlags_get g h2
    rwa [List.getD_eq_getElem?_getD, List.getElem?_eq_getElem h] at this
  rw [List.getElem_set]
  by_cases hi : q = i
  · rw [if_pos hi, e, ← hi]
    refine (byte_up hr ?_ ?_ (fun m hm => ?_)).symm
    · unfold below; rw [if_neg (by omega)]
    · unfold below; rw [if_pos (by omega), ← hn]; exact hf
    · unfold below
      by_cases h3 : m < n
      · rw [if_pos h3, if_pos (by omega)]
      · rw [if_neg h3, if_neg (by omega)]
  · rw [if_neg hi, e, e]
    refine (byte_same (fun k hk => ?_)).symm
    unfold below
    by_cases h3 : 8 * i + k < n
    · rw [if_pos h3, if_pos (by omega)]
    · rw [if_neg h3, if_neg (by omega)]
theorem map_down {f : Nat → Bool} {n : Nat} (hf : f n = false) : ofFlags (below f n) = ofFlags (below f (n + 1)) := ofFlags_congr (fun m _ => by
  unfold below
  by_cases h3 : m < n
  · rw [if_pos h3, if_pos (by omega)]
  · rw [if_neg h3]
    by_cases h4 : m = n
    · rw [if_pos (by omega), h4, hf]
    · rw [if_neg (by omega)])
theorem map_all (f : Nat → Bool) : ofFlags (below f 480) = ofFlags f := ofFlags_congr (fun m hm => by unfold below; rw [if_pos hm])
theorem map_none (f : Nat → Bool) : ofFlags (below f 0) = List.replicate 60 0 := by
  rw [ofFlags_congr (f := below f 0) (g := fun _ => false) (fun m _ => by unfold below; rw [if_neg (by omega)])]
  decide +kernel
theorem byte_room {f : Nat → Bool} {n q r : Nat} (hr : r < 8) (hq : q < 60) (hn : n = 8 * q + r) (hf : f n = true) : 0 ≤ (ofFlags (below f n)).getD q 0 ∧ (ofFlags (below f n)).getD q 0 + 2 ^ r ≤ 255 := by
  have h1 := map_up hr hq hn hf
  have h2 := ofFlags_bytes (below f n) _ (getD_mem (l := ofFlags (below f n)) (k := q) (by rw [ofFlags_length]; exact hq))
  have h3 := ofFlags_bytes (below f (n + 1)) ((ofFlags (below f n)).getD q 0 + 2 ^ r) (by rw [← h1]; exact List.mem_set (by rw [ofFlags_length]; exact hq) _)
  exact ⟨h2.1, h3.2⟩

set_option maxRecDepth 100000 in
set_option maxHeartbeats 1600000 in
theorem Map05_any {w : World} {ao : Option Addr} {c : Nat} {f : Nat → Bool} (hV : Vals w ao 480 (boolsV f 480)) :
    Calls Tryz.prog 104 #[.slice ao 480 c] w (Gives w.heap.size w (ofFlags f)) := by
  have hmk := run_make_bytes w 60 (by decide)
  rw [show ((60 : Nat) : Int) = 60 from rfl] at hmk
  obtain ⟨b, off, rfl, hcells⟩ := hV.2.2.resolve_left (by decide)
  have HV : Hid (∀ W, Below w.heap.size w W → ∀ j, j < 480 → W.cell? ⟨b, off + j, none⟩ = some (.bool (f j))) := Lib.hid (fun W hW j hj => cell_later hW (hcells j _ (boolsV_at f hj)))
  have HO0 := Lib.hid (made_own w 60)
  obtain ⟨g, hg⟩ : ∃ g, w.heap.size = g := ⟨_, rfl⟩
  have HQ := Lib.hid hg
  rw [hg] at hmk HO0
  clear hV hcells
  go_enter Tryz.func104, Tryz.ntmps104
  go_wp2_with fail
  have HJ0 : Hid (Own g w g (ofFlags (below f 0)) (w.alloc (.cells (madeCells #[.int .u8 0] 60) 5))) := Lib.hid (by rw [map_none]; exact HO0.out)
  clear HO0 hmk hg
  go_loopw [4] (fun iv wr => ∃ j : Nat, j ≤ 480 ∧ iv = .int .i64 (j : Int) ∧ Hid (Own g w g (ofFlags (below f j)) wr)) (fun iv _ => 480 - (intOf iv).toNat)
  case atStart => exact ⟨0, Nat.zero_le _, rfl, HJ0⟩
  case round =>
    obtain ⟨j, hj, rfl, HO⟩ := hrel
    clear HJ0
    by_cases hlt : j < 480
    · have hcb := HV.out wr (HQ.out ▸ HO.out.2.2.2.2) j hlt
      cases hfj : f j with
      | false =>
        rw [hfj] at hcb
        have HM := Lib.hid (map_down hfj)
        clear hfj
        go_wp2_with fail
        exact ⟨⟨j + 1, by omega, by go_num, Lib.hid (by rw [← HM.out]; exact HO.out)⟩, by simp [intOf]; omega⟩
      | true =>
        rw [hfj] at hcb
        obtain ⟨q, hq⟩ : ∃ q : Nat, q = j / 8 := ⟨_, rfl⟩
        obtain ⟨r, hr⟩ : ∃ r : Nat, r = j % 8 := ⟨_, rfl⟩
        have hq60 : q < 60 := by omega
        have hr8 : r ≤ 7 := by omega
        have hn : j = 8 * q + r := by omega
        have hm := map_up (by omega) hq60 hn hfj
        have hroom := byte_room (by omega) hq60 hn hfj
        obtain ⟨x, hx⟩ : ∃ x, (ofFlags (below f j)).getD q 0 = x := ⟨_, rfl⟩
        obtain ⟨P, hP⟩ : ∃ P : Int, P = 2 ^ r := ⟨_, rfl⟩
        have cP := power05_any r wr.drew hr8
        rw [← hP] at cP hm hroom
        rw [hx] at hm hroom
        have hp0 : 1 ≤ P := by rw [hP]; exact Int.pow_pos (by decide)
        have HM := Lib.hid hm
        have hcell : wr.drew.cell? ⟨g, q, none⟩ = some (.int .u8 x) := by
          have h := HO.out.2.1 q (by rw [ofFlags_length]; exact hq60)
          rw [hx] at h
          exact h
        have hfz : wr.drew.frozen? ⟨g, q, none⟩ = false := HO.out.2.2.1 q
        have d1 : IntKind.i64.wrap ((j : Int) / 8) = (q : Int) := by rw [IntWalk.i64_in _ (by omega)]; omega
        have d2 : Int.tmod (j : Int) 8 = (r : Int) := by rw [Int.tmod_eq_emod_of_nonneg (by omega)]; omega
        obtain ⟨y, hy⟩ : ∃ y, x + P = y := ⟨_, rfl⟩
        have d3 : IntKind.u8.wrap (x + P) = y := by rw [IntWalk.u8_in _ (by omega)]; exact hy
        have hq0 : (0 : Int) ≤ (q : Int) := by omega
        have hq6 : (q : Int) < 60 := by omega
        have HY : Hid (0 ≤ y ∧ y ≤ 255 ∧ x + P = y) := Lib.hid (by omega)
        clear hq hr hn hm hroom hP hx hp0 hy hfj
        go_wp2_with fail
        go_region_law (go_simp; go_at_call 117; refine cP.mono ?_; rintro e w' ⟨rfl, rfl⟩)
        all_goals
          clear d1 d2 d3
          go_wp2_with fail
          exact ⟨⟨j + 1, by omega, by go_num, Lib.hid (by rw [← HM.out, HY.out.2.2]; exact (HO.out.store (by rw [ofFlags_length]; exact hq60) ⟨HY.out.1, HY.out.2.1⟩).drew)⟩, by simp [intOf]; omega⟩
    · have hjj : j = 480 := by omega
      subst hjj
      go_wp2_with fail
      go_ret
      have ho := HO.out
      rw [map_all] at ho
      have hf := ho.fresh (cap := 60) (by rw [ofFlags_length]; decide) (by rw [ofFlags_length]; decide)
      rw [ofFlags_length] at hf
      rw [HQ.out]
      exact ⟨_, rfl, hf, ho.2.2.2.2⟩

/-- Flags, set ahead of n where h says so. -/
def mixF (f h : Nat → Bool) (n m : Nat) : Bool := if m < n ∧ h m = true then true else f m
theorem mix_zero (f h : Nat → Bool) : boolsV (mixF f h 0) 480 = boolsV f 480 := boolsV_congr (fun n _ => by unfold mixF; rw [if_neg (fun e => by omega)])
theorem mix_no {f h : Nat → Bool} {n : Nat} (hh : h n = false) : boolsV (mixF f h n) 480 = boolsV (mixF f h (n + 1)) 480 := boolsV_congr (fun m _ => by
  unfold mixF
  by_cases e : m < n ∧ h m = true
  · rw [if_pos e, if_pos ⟨by omega, e.2⟩]
  · rw [if_neg e, if_neg (fun e2 => e ⟨by
      have : m ≠ n := fun e3 => by rw [e3, hh] at e2; cases e2.2
      omega, e2.2⟩)])
theorem mix_yes {f h : Nat → Bool} {n : Nat} (hn : n < 480) (hh : h n = true) : (boolsV (mixF f h n) 480).set n (.bool true) = boolsV (mixF f h (n + 1)) 480 := by
  rw [boolsV_set _ hn]
  refine boolsV_congr (fun m _ => ?_)
  unfold mixF
  by_cases e3 : m = n
  · rw [if_pos e3, if_pos ⟨by omega, by rw [e3]; exact hh⟩]
  · rw [if_neg e3]
    by_cases e : m < n ∧ h m = true
    · rw [if_pos e, if_pos ⟨by omega, e.2⟩]
    · rw [if_neg e, if_neg (fun e2 => e ⟨by omega, e2.2⟩)]
theorem mix_mark (zs : List Int) (a b : Nat) : ofFlags (mixF (flag zs) (oneF a (a + b)) 480) = markP zs true [(a, b)] := by
  unfold markP
  refine ofFlags_congr (fun m hm => ?_)
  have e : inRuns [(a, b)] m = oneF a (a + b) m := by unfold inRuns oneF; simp
  unfold mixF markF
  rw [e]
  by_cases h : oneF a (a + b) m = true
  · rw [if_pos ⟨hm, h⟩, if_pos h]
  · rw [if_neg (fun e => h e.2), if_neg h]

set_option maxRecDepth 100000 in
set_option maxHeartbeats 1600000 in
theorem Mark05_one {w : World} {ao : Option Addr} {c g o c2 x y a b : Nat} {zs : List Int} (hA : Arg w ao 60 c zs) (hc : w.cell? ⟨g, o, none⟩ = some (.complex .f64 x y)) (hx : FI x a) (hy : FI y b) (hb : 1 ≤ b) (hab : a + b ≤ 480) :
    Calls Tryz.prog 54 #[.slice ao 60 c, .bool true, .slice (some ⟨g, o, none⟩) 1 c2] w fun e w' => ∃ v, e = .returned (.tuple #[v, .int .i64 0]) ∧ Fresh w' w.heap.size v (markP zs true [(a, b)]) ∧ Below w.heap.size w w' := by
  have cB := Blocks02_one (c := c2) hc hx hy hb hab
  have HU : Hid (∀ W, Below w.heap.size w W → Calls Tryz.prog 67 #[.slice ao 60 c] W (GivesV W.heap.size W (boolsV (flag zs) 480))) := Lib.hid (fun W hW => Up05_any ao c zs W (hA.1.later hW))
  clear hA hc hx hy
  go_enter Tryz.func54, Tryz.ntmps54
  go_wp2_with (first
    | (go_at_call 103; refine cB.mono ?_; rintro e w1 ⟨v1, rfl, hf1, hb1⟩; obtain ⟨g1, c1, rfl, _, ho1⟩ := ownV_of_fresh hf1 hb1 (by rw [ne_eq, ← List.length_eq_zero_iff, boolsV_length]; decide); rw [boolsV_length]; have HO1 := Lib.hid ho1; clear hf1 hb1 ho1 cB)
    | (go_at_call 67; refine (HU.out _ HO1.out.2.2.2).mono ?_; rintro e w2 ⟨v2, rfl, hf2, hb2⟩; obtain ⟨g2, c2', rfl, _, ho2⟩ := ownV_of_fresh hf2 hb2 (by rw [ne_eq, ← List.length_eq_zero_iff, boolsV_length]; decide); rw [boolsV_length]; have HO2 := Lib.hid ho2; clear hf2 hb2 ho2 HU))
  have HJ0 : Hid (OwnV w1.heap.size w1 g2 (boolsV (mixF (flag zs) (oneF a (a + b)) 0) 480) w2) := Lib.hid (by rw [mix_zero]; exact HO2.out)
  clear HO2
  go_loopw [11] (fun iv wr => ∃ j : Nat, j ≤ 480 ∧ iv = .int .i64 (j : Int) ∧ Hid (OwnV w1.heap.size w1 g2 (boolsV (mixF (flag zs) (oneF a (a + b)) j) 480) wr)) (fun iv _ => 480 - (intOf iv).toNat)
  case atStart => exact ⟨0, Nat.zero_le _, rfl, HJ0⟩
  case round =>
    obtain ⟨j, hj, rfl, HO⟩ := hrel
    clear HJ0
    by_cases hlt : j < 480
    · have hcb : wr.cell? ⟨g1, j, none⟩ = some (.bool (oneF a (a + b) j)) := cell_later HO.out.2.2.2 (HO1.out.1 j _ (boolsV_at _ hlt))
      cases hfj : oneF a (a + b) j with
      | false =>
        rw [hfj] at hcb
        have HM := Lib.hid (mix_no (f := flag zs) hfj)
        clear hfj
        go_wp2_with fail
        exact ⟨⟨j + 1, by omega, by go_num, Lib.hid (by rw [← HM.out]; exact HO.out)⟩, by simp [intOf]; omega⟩
      | true =>
        rw [hfj] at hcb
        have HM := Lib.hid (mix_yes (f := flag zs) hlt hfj)
        have hce := HO.out.1 j _ (boolsV_at _ hlt)
        have hfz := HO.out.2.1 j
        clear hfj
        go_wp2_with fail
        exact ⟨⟨j + 1, by omega, by go_num, Lib.hid (by rw [← HM.out]; exact HO.out.store (by rw [boolsV_length]; exact hlt))⟩, by simp [intOf]; omega⟩
    · have hjj : j = 480 := by omega
      subst hjj
      have HV := Lib.hid (HO.out.vals (by rw [boolsV_length]; decide))
      rw [boolsV_length] at HV
      go_wp2_with (go_at_call 104; refine (Map05_any HV.out).mono ?_; rintro e w3 ⟨v3, rfl, hf3, hb3⟩; have HF := Lib.hid hf3; have HB3 := Lib.hid hb3; clear hf3 hb3)
      go_ret2
      have h1 := HO1.out.2.2.2
      have h2 := h1.trans (HO.out.2.2.2.mono h1.size)
      have hf := HF.out
      rw [mix_mark] at hf
      obtain ⟨ao3, cap3, hv3, hA3, hn3⟩ := hf
      exact ⟨_, rfl, ⟨ao3, cap3, hv3, hA3, hn3.imp_right (fun ⟨g3, o3, e3, h3, h4⟩ => ⟨g3, o3, e3, Nat.le_trans h2.size h3, h4⟩)⟩, h2.trans (HB3.out.mono h2.size)⟩
end Go.Proofs.YtmcblhgpcgnaoaaGreatDoor


namespace Go.Proofs.YtmcblhgpcgnaoaaGreatDoor
open Go.RowKit

theorem in08_any (n lo hi : Int) (w : World) : Calls Tryz.prog 89 #[.int .i64 n, .int .i64 lo, .int .i64 hi] w fun e w' => e = .returned (.bool (decide (lo ≤ n ∧ n ≤ hi))) ∧ w = w' := by
  by_cases h1 : lo ≤ n
  · by_cases h2 : n ≤ hi
    · rw [decide_eq_true (And.intro h1 h2)]
      go_enter Tryz.func89, Tryz.ntmps89
      go_wp2
      go_ret
      exact ⟨rfl, rfl⟩
    · rw [decide_eq_false (fun h => h2 h.2)]
      go_enter Tryz.func89, Tryz.ntmps89
      go_wp2
      go_ret
      exact ⟨rfl, rfl⟩
  · rw [decide_eq_false (fun h => h1 h.1)]
    go_enter Tryz.func89, Tryz.ntmps89
    go_wp2
    go_ret
    exact ⟨rfl, rfl⟩

/-- 'append(dst, s...)', s a text. -/
theorem wp_append_text8 {ops : Array Oper} {rest : List Oper} {o : Oper} {a : Act} {Q : Exit → Act → World → Prop} {w : World} (hgd : o.guard = none) (s x : Operand)
    (ho : o.op = .call { callee := .builtin .append, args := #[s, x], argTypes := #[62, 9] }) (base n : Nat) (v : Value) (xs : List Value) (hs : a.eval s = v) (hown : w.ownsRow base 5 1 v n xs)
    (t : ByteArray) (hx : a.eval x = .string t) (hb : n + t.size ≤ 140737488355328) (hbase : base ≤ w.heap.size)
    (h : ∀ v' w', w'.ownsRow base 5 1 v' (n + t.size) (xs ++ (bytesOf t).map (Value.int .u8)) → Below base w w' → wpList Tryz.prog ops Q rest (a.put o.dst v') w') : wpList Tryz.prog ops Q (o :: rest) a w := by
  obtain ⟨i0, hi, hz0, hz1, hz2⟩ := info_parts info5
  refine Lib.wpList_append_own_string (P := Tryz.prog) w hgd s x 62 9 ho base 5 i0 Tryz.underlying62 Tryz.underlying9 hi hz0 hz1 hz2 v n xs hs hown t hx (by unfold maxLen; omega) hb hbase (fun v' w' h1 h2 _ => h v' w' (by rw [← strCells_bytes]; exact h1) ((Below.refl base w).grown h2 hbase (fun k hk => (hown.lt k hk).1)))

theorem put08 {base : Nat} {w : World} {v : Value} {len : Nat} {zs : List Int} {n : Int} {kz : Int} (k : Nat) (e : kz = k) (hown : w.ownsRow base 5 1 v len (zs.map (Value.int .u8))) (hbase : base ≤ w.heap.size)
    (hn : 0 ≤ n ∧ n ≤ 1073741824) (hk : k ≤ 8) (hlen : len ≤ 1000) : Calls Tryz.prog 90 #[v, .int .i64 n, .int .i64 kz] w (PutPost base w (len + k) (zs ++ leB n k)) := by
  subst e
  exact Put04_any base v len zs n k w hown hbase hn.1 (by omega) hk (by omega)

theorem seal08 {base n : Nat} {w : World} {v : Value} {zs : List Int} (h : w.ownsRow base 5 1 v n (zs.map (Value.int .u8))) (hz : ∀ z ∈ zs, 0 ≤ z ∧ z ≤ 255) (hn : n ≤ 1000) : Calls Tryz.prog 56 #[v] w (Gives w.heap.size w (sealOf sumS zs)) := by
  obtain ⟨ao, cap, rfl, hA, _⟩ := fresh_of_owns h hz (by omega)
  exact Seal04_any ao _ cap zs w hA

/-- A field of a variable that was made. -/
theorem made_at (w : World) (cs : Array Value) (T : TypeId) (j : Nat) (v : Value) (h : cs[j]? = some v) : (w.alloc (.cells cs T)).cell? ⟨w.heap.size, j, none⟩ = some v := by
  rw [World.cell?_alloc_new]
  exact h

/-- Behind a variable that was made: an empty list. -/
theorem made_empty (w : World) (cs : Array Value) (T : TypeId) : Hid (((w.alloc (.cells cs T)).alloc (.cells #[] 5)).ownsRow (w.heap.size + 1) 5 1 (.slice (some ⟨w.heap.size + 1, 0, none⟩) 0 0) 0 []) ∧ Hid (Below (w.heap.size + 1) (w.alloc (.cells cs T)) ((w.alloc (.cells cs T)).alloc (.cells #[] 5))) := by
  have h1 := World.ownsRow_made (base := (w.alloc (.cells cs T)).heap.size) (e := 5) (size := 1) (w.alloc (.cells cs T)) #[] 0 (Nat.le_refl _) (by decide) rfl
  have h2 : Below (w.alloc (.cells cs T)).heap.size (w.alloc (.cells cs T)) ((w.alloc (.cells cs T)).alloc (.cells #[] 5)) := (Below.refl _ _).alloc (Nat.le_refl _) _
  rw [World.size_alloc] at h1 h2
  exact ⟨Lib.hid h1, Lib.hid h2⟩

set_option maxHeartbeats 1600000 in
theorem put08_any (h : PHead) (w : World) (hi : h.in64) : Calls Tryz.prog 53 #[h.val] w (Handed w.heap.size w (headOut h) (headErr h)) := by
  obtain ⟨a, b⟩ := h
  obtain ⟨ia, ib⟩ := hi
  unfold PHead.val
  by_cases ha : 0 ≤ a ∧ a ≤ 39
  case neg =>
    have HE : Hid (headErr (⟨a, b⟩ : PHead) = 2 ∧ headOut (⟨a, b⟩ : PHead) = []) := Lib.hid (by
      have e : (⟨a, b⟩ : PHead).sound = false := by unfold PHead.sound; rw [decide_eq_false_iff_not]; intro h; have h1 : 0 ≤ a ∧ a ≤ 39 ∧ 1 ≤ b ∧ b ≤ 1073741824 := h; exact ha (by omega)
      unfold headErr headOut; rw [e]; exact ⟨rfl, rfl⟩)
    have ca := Lib.hid (decide_eq_false ha)
    clear ha
    go_enter Tryz.func53, Tryz.ntmps53
    go_wp2_with (first | (go_at_call 89; refine (in08_any _ _ _ _).mono ?_; rintro e w1 ⟨rfl, rfl⟩; first | rw [ca.out]))
    go_ret2
    exact ⟨.slice none 0 0, by rw [HE.out.1]; rfl, by rw [HE.out.2]; exact Fresh.nil _ _, (Below.refl _ _).alloc (Nat.le_refl _) _⟩
  by_cases hb : 1 ≤ b ∧ b ≤ 1073741824
  case neg =>
    have HE : Hid (headErr (⟨a, b⟩ : PHead) = 2 ∧ headOut (⟨a, b⟩ : PHead) = []) := Lib.hid (by
      have e : (⟨a, b⟩ : PHead).sound = false := by unfold PHead.sound; rw [decide_eq_false_iff_not]; intro h; have h1 : 0 ≤ a ∧ a ≤ 39 ∧ 1 ≤ b ∧ b ≤ 1073741824 := h; exact hb (by omega)
      unfold headErr headOut; rw [e]; exact ⟨rfl, rfl⟩)
    have ca := Lib.hid (decide_eq_true ha)
    have cb := Lib.hid (decide_eq_false hb)
    clear ha hb
    go_enter Tryz.func53, Tryz.ntmps53
    go_wp2_with (first | (go_at_call 89; refine (in08_any _ _ _ _).mono ?_; rintro e w1 ⟨rfl, rfl⟩; first | rw [ca.out] | rw [cb.out]))
    go_ret2
    exact ⟨.slice none 0 0, by rw [HE.out.1]; rfl, by rw [HE.out.2]; exact Fresh.nil _ _, (Below.refl _ _).alloc (Nat.le_refl _) _⟩
  have HE : Hid (headErr (⟨a, b⟩ : PHead) = 0 ∧ headOut (⟨a, b⟩ : PHead) = sealOf sumS (headB (⟨a, b⟩ : PHead))) := Lib.hid (by
    have e : (⟨a, b⟩ : PHead).sound = true := by unfold PHead.sound; rw [decide_eq_true_iff]; show 0 ≤ a ∧ a ≤ 39 ∧ 1 ≤ b ∧ b ≤ 1073741824; omega
    unfold headErr headOut; rw [e]; exact ⟨rfl, rfl⟩)
  have ca := Lib.hid (decide_eq_true ha)
  have Ha : Hid (0 ≤ a ∧ a ≤ 1073741824) := Lib.hid (by omega)
  have cb := Lib.hid (decide_eq_true hb)
  have Hb : Hid (0 ≤ b ∧ b ≤ 1073741824) := Lib.hid (by omega)
  clear ha hb
  obtain ⟨W, hW⟩ : ∃ W, W = w.alloc (.cells #[.int .i64 a, .int .i64 b] 89) := ⟨_, rfl⟩
  have HBW : Hid (Below w.heap.size w W) := Lib.hid (by rw [hW]; exact (Below.refl _ _).alloc (Nat.le_refl _) _)
  have F0a : Hid (W.cell? ⟨w.heap.size, 0, none⟩ = some (.int .i64 a)) := Lib.hid (by rw [hW]; exact made_at _ _ _ _ _ rfl)
  have F0b : Hid (W.cell? ⟨w.heap.size, 1, none⟩ = some (.int .i64 b)) := Lib.hid (by rw [hW]; exact made_at _ _ _ _ _ rfl)
  have HWL : Hid (w.heap.size ≤ W.heap.size) := Lib.hid HBW.out.size
  have HW := Lib.hid hW
  clear hW
  obtain ⟨HM, HN⟩ := made_empty w #[.int .i64 a, .int .i64 b] 89
  go_enter Tryz.func53, Tryz.ntmps53
  go_wp2_with (first
    | (go_at_call 89; refine (in08_any _ _ _ _).mono ?_; rintro e w1 ⟨rfl, rfl⟩; first | rw [ca.out] | rw [cb.out])
    | (go_at_call 56; refine (seal08 O3.out (headB_bytes (⟨a, b⟩ : PHead)) (by decide)).mono ?_; rintro e w4 ⟨v4, rfl, h5, b5⟩; have B4 := Lib.hid (B3.out.trans (b5.mono B3.out.size)); have R4 := Lib.hid (h5.mono (Nat.le_trans HWL.out B3.out.size)); clear h5 b5)
    | (go_at_call 90; refine (put08 4 rfl O2.out (B2.out.size) Hb.out (by decide) (by decide)).mono ?_; rintro e w3 ⟨v3, rfl, h5, b5⟩; have B3 := Lib.hid (B2.out.trans b5); have O3 := Lib.hid h5; have f3a := cell_later B3.out F0a.out; have f3b := cell_later B3.out F0b.out; clear h5 b5)
    | (go_at_call 90; refine (put08 4 rfl O1.out (B1.out.size) Ha.out (by decide) (by decide)).mono ?_; rintro e w2 ⟨v2, rfl, h5, b5⟩; have B2 := Lib.hid (B1.out.trans b5); have O2 := Lib.hid h5; have f2a := cell_later B2.out F0a.out; have f2b := cell_later B2.out F0b.out; clear h5 b5)
    | (at_builtin; refine wp_append_text8 rfl (.tmp 15) _ rfl (w.heap.size + 1) 0 _ [] rfl HM.out _ rfl (by decide) (by simp) ?_; intro v1 w1 hown1 hb1; have hb2 := HN.out.trans hb1; rw [← World.size_alloc w (.cells #[.int .i64 a, .int .i64 b] 89), ← HW.out] at hown1 hb2; have B1 := Lib.hid hb2; have O1 : Hid (w1.ownsRow W.heap.size 5 1 v1 4 (headT.map (Value.int .u8))) := Lib.hid hown1; have f1a := cell_later B1.out F0a.out; have f1b := cell_later B1.out F0b.out; clear hown1 hb1 hb2))
  go_ret2
  exact ⟨_, by rw [HE.out.1]; rfl, by rw [HE.out.2]; exact R4.out, HBW.out.trans (B4.out.mono HWL.out)⟩

set_option maxHeartbeats 1600000 in
theorem enc08_any (h : PSup) (w : World) (hi : h.in64) : Calls Tryz.prog 33 #[h.val] w (Handed w.heap.size w (supOut h) (supErr h)) := by
  obtain ⟨a, b, c, d, e⟩ := h
  obtain ⟨ia, ib, ic, id, ie⟩ := hi
  unfold PSup.val
  by_cases ha : 64 ≤ a ∧ a ≤ 480
  case neg =>
    have HE : Hid (supErr (⟨a, b, c, d, e⟩ : PSup) = 2 ∧ supOut (⟨a, b, c, d, e⟩ : PSup) = []) := Lib.hid (by
      have e : (⟨a, b, c, d, e⟩ : PSup).sound = false := by unfold PSup.sound; rw [decide_eq_false_iff_not]; intro h; have h1 : 64 ≤ a ∧ a ≤ 480 ∧ 1 ≤ b ∧ b ≤ 3 ∧ 0 ≤ c ∧ c ≤ 3 ∧ 0 ≤ d ∧ d ≤ 32 ∧ 0 ≤ e ∧ e ≤ 480 := h; exact ha (by omega)
      unfold supErr supOut; rw [e]; exact ⟨rfl, rfl⟩)
    have ca := Lib.hid (decide_eq_false ha)
    clear ha
    go_enter Tryz.func33, Tryz.ntmps33
    go_wp2_with (first | (go_at_call 89; refine (in08_any _ _ _ _).mono ?_; rintro e w1 ⟨rfl, rfl⟩; first | rw [ca.out]))
    go_ret2
    exact ⟨.slice none 0 0, by rw [HE.out.1]; rfl, by rw [HE.out.2]; exact Fresh.nil _ _, (Below.refl _ _).alloc (Nat.le_refl _) _⟩
  by_cases hb : 1 ≤ b ∧ b ≤ 3
  case neg =>
    have HE : Hid (supErr (⟨a, b, c, d, e⟩ : PSup) = 2 ∧ supOut (⟨a, b, c, d, e⟩ : PSup) = []) := Lib.hid (by
      have e : (⟨a, b, c, d, e⟩ : PSup).sound = false := by unfold PSup.sound; rw [decide_eq_false_iff_not]; intro h; have h1 : 64 ≤ a ∧ a ≤ 480 ∧ 1 ≤ b ∧ b ≤ 3 ∧ 0 ≤ c ∧ c ≤ 3 ∧ 0 ≤ d ∧ d ≤ 32 ∧ 0 ≤ e ∧ e ≤ 480 := h; exact hb (by omega)
      unfold supErr supOut; rw [e]; exact ⟨rfl, rfl⟩)
    have ca := Lib.hid (decide_eq_true ha)
    have cb := Lib.hid (decide_eq_false hb)
    clear ha hb
    go_enter Tryz.func33, Tryz.ntmps33
    go_wp2_with (first | (go_at_call 89; refine (in08_any _ _ _ _).mono ?_; rintro e w1 ⟨rfl, rfl⟩; first | rw [ca.out] | rw [cb.out]))
    go_ret2
    exact ⟨.slice none 0 0, by rw [HE.out.1]; rfl, by rw [HE.out.2]; exact Fresh.nil _ _, (Below.refl _ _).alloc (Nat.le_refl _) _⟩
  by_cases hc : 0 ≤ c ∧ c ≤ 3
  case neg =>
    have HE : Hid (supErr (⟨a, b, c, d, e⟩ : PSup) = 2 ∧ supOut (⟨a, b, c, d, e⟩ : PSup) = []) := Lib.hid (by
      have e : (⟨a, b, c, d, e⟩ : PSup).sound = false := by unfold PSup.sound; rw [decide_eq_false_iff_not]; intro h; have h1 : 64 ≤ a ∧ a ≤ 480 ∧ 1 ≤ b ∧ b ≤ 3 ∧ 0 ≤ c ∧ c ≤ 3 ∧ 0 ≤ d ∧ d ≤ 32 ∧ 0 ≤ e ∧ e ≤ 480 := h; exact hc (by omega)
      unfold supErr supOut; rw [e]; exact ⟨rfl, rfl⟩)
    have ca := Lib.hid (decide_eq_true ha)
    have cb := Lib.hid (decide_eq_true hb)
    have cc := Lib.hid (decide_eq_false hc)
    clear ha hb hc
    go_enter Tryz.func33, Tryz.ntmps33
    go_wp2_with (first | (go_at_call 89; refine (in08_any _ _ _ _).mono ?_; rintro e w1 ⟨rfl, rfl⟩; first | rw [ca.out] | rw [cb.out] | rw [cc.out]))
    go_ret2
    exact ⟨.slice none 0 0, by rw [HE.out.1]; rfl, by rw [HE.out.2]; exact Fresh.nil _ _, (Below.refl _ _).alloc (Nat.le_refl _) _⟩
  by_cases hd : 0 ≤ d ∧ d ≤ 32
  case neg =>
    have HE : Hid (supErr (⟨a, b, c, d, e⟩ : PSup) = 2 ∧ supOut (⟨a, b, c, d, e⟩ : PSup) = []) := Lib.hid (by
      have e : (⟨a, b, c, d, e⟩ : PSup).sound = false := by unfold PSup.sound; rw [decide_eq_false_iff_not]; intro h; have h1 : 64 ≤ a ∧ a ≤ 480 ∧ 1 ≤ b ∧ b ≤ 3 ∧ 0 ≤ c ∧ c ≤ 3 ∧ 0 ≤ d ∧ d ≤ 32 ∧ 0 ≤ e ∧ e ≤ 480 := h; exact hd (by omega)
      unfold supErr supOut; rw [e]; exact ⟨rfl, rfl⟩)
    have ca := Lib.hid (decide_eq_true ha)
    have cb := Lib.hid (decide_eq_true hb)
    have cc := Lib.hid (decide_eq_true hc)
    have cd := Lib.hid (decide_eq_false hd)
    clear ha hb hc hd
    go_enter Tryz.func33, Tryz.ntmps33
    go_wp2_with (first | (go_at_call 89; refine (in08_any _ _ _ _).mono ?_; rintro e w1 ⟨rfl, rfl⟩; first | rw [ca.out] | rw [cb.out] | rw [cc.out] | rw [cd.out]))
    go_ret2
    exact ⟨.slice none 0 0, by rw [HE.out.1]; rfl, by rw [HE.out.2]; exact Fresh.nil _ _, (Below.refl _ _).alloc (Nat.le_refl _) _⟩
  by_cases he : 0 ≤ e ∧ e ≤ 480
  case neg =>
    have HE : Hid (supErr (⟨a, b, c, d, e⟩ : PSup) = 2 ∧ supOut (⟨a, b, c, d, e⟩ : PSup) = []) := Lib.hid (by
      have e : (⟨a, b, c, d, e⟩ : PSup).sound = false := by unfold PSup.sound; rw [decide_eq_false_iff_not]; intro h; have h1 : 64 ≤ a ∧ a ≤ 480 ∧ 1 ≤ b ∧ b ≤ 3 ∧ 0 ≤ c ∧ c ≤ 3 ∧ 0 ≤ d ∧ d ≤ 32 ∧ 0 ≤ e ∧ e ≤ 480 := h; exact he (by omega)
      unfold supErr supOut; rw [e]; exact ⟨rfl, rfl⟩)
    have ca := Lib.hid (decide_eq_true ha)
    have cb := Lib.hid (decide_eq_true hb)
    have cc := Lib.hid (decide_eq_true hc)
    have cd := Lib.hid (decide_eq_true hd)
    have ce := Lib.hid (decide_eq_false he)
    clear ha hb hc hd he
    go_enter Tryz.func33, Tryz.ntmps33
    go_wp2_with (first | (go_at_call 89; refine (in08_any _ _ _ _).mono ?_; rintro e w1 ⟨rfl, rfl⟩; first | rw [ca.out] | rw [cb.out] | rw [cc.out] | rw [cd.out] | rw [ce.out]))
    go_ret2
    exact ⟨.slice none 0 0, by rw [HE.out.1]; rfl, by rw [HE.out.2]; exact Fresh.nil _ _, (Below.refl _ _).alloc (Nat.le_refl _) _⟩
  have HE : Hid (supErr (⟨a, b, c, d, e⟩ : PSup) = 0 ∧ supOut (⟨a, b, c, d, e⟩ : PSup) = sealOf sumS (supB (⟨a, b, c, d, e⟩ : PSup))) := Lib.hid (by
    have e : (⟨a, b, c, d, e⟩ : PSup).sound = true := by unfold PSup.sound; rw [decide_eq_true_iff]; show 64 ≤ a ∧ a ≤ 480 ∧ 1 ≤ b ∧ b ≤ 3 ∧ 0 ≤ c ∧ c ≤ 3 ∧ 0 ≤ d ∧ d ≤ 32 ∧ 0 ≤ e ∧ e ≤ 480; omega
    unfold supErr supOut; rw [e]; exact ⟨rfl, rfl⟩)
  have ca := Lib.hid (decide_eq_true ha)
  have Ha : Hid (0 ≤ a ∧ a ≤ 1073741824) := Lib.hid (by omega)
  have cb := Lib.hid (decide_eq_true hb)
  have Hb : Hid (0 ≤ b ∧ b ≤ 1073741824) := Lib.hid (by omega)
  have cc := Lib.hid (decide_eq_true hc)
  have Hc : Hid (0 ≤ c ∧ c ≤ 1073741824) := Lib.hid (by omega)
  have cd := Lib.hid (decide_eq_true hd)
  have Hd : Hid (0 ≤ d ∧ d ≤ 1073741824) := Lib.hid (by omega)
  have ce := Lib.hid (decide_eq_true he)
  have He : Hid (0 ≤ e ∧ e ≤ 1073741824) := Lib.hid (by omega)
  clear ha hb hc hd he
  obtain ⟨W, hW⟩ : ∃ W, W = w.alloc (.cells #[.int .i64 a, .int .i64 b, .int .i64 c, .int .i64 d, .int .i64 e] 32) := ⟨_, rfl⟩
  have HBW : Hid (Below w.heap.size w W) := Lib.hid (by rw [hW]; exact (Below.refl _ _).alloc (Nat.le_refl _) _)
  have F0a : Hid (W.cell? ⟨w.heap.size, 0, none⟩ = some (.int .i64 a)) := Lib.hid (by rw [hW]; exact made_at _ _ _ _ _ rfl)
  have F0b : Hid (W.cell? ⟨w.heap.size, 1, none⟩ = some (.int .i64 b)) := Lib.hid (by rw [hW]; exact made_at _ _ _ _ _ rfl)
  have F0c : Hid (W.cell? ⟨w.heap.size, 2, none⟩ = some (.int .i64 c)) := Lib.hid (by rw [hW]; exact made_at _ _ _ _ _ rfl)
  have F0d : Hid (W.cell? ⟨w.heap.size, 3, none⟩ = some (.int .i64 d)) := Lib.hid (by rw [hW]; exact made_at _ _ _ _ _ rfl)
  have F0e : Hid (W.cell? ⟨w.heap.size, 4, none⟩ = some (.int .i64 e)) := Lib.hid (by rw [hW]; exact made_at _ _ _ _ _ rfl)
  have HWL : Hid (w.heap.size ≤ W.heap.size) := Lib.hid HBW.out.size
  have HW := Lib.hid hW
  clear hW
  obtain ⟨HM, HN⟩ := made_empty w #[.int .i64 a, .int .i64 b, .int .i64 c, .int .i64 d, .int .i64 e] 32
  go_enter Tryz.func33, Tryz.ntmps33
  go_wp2_with (first
    | (go_at_call 89; refine (in08_any _ _ _ _).mono ?_; rintro e w1 ⟨rfl, rfl⟩; first | rw [ca.out] | rw [cb.out] | rw [cc.out] | rw [cd.out] | rw [ce.out])
    | (go_at_call 56; refine (seal08 O6.out (supB_bytes (⟨a, b, c, d, e⟩ : PSup)) (by decide)).mono ?_; rintro e w7 ⟨v7, rfl, h5, b5⟩; have B7 := Lib.hid (B6.out.trans (b5.mono B6.out.size)); have R7 := Lib.hid (h5.mono (Nat.le_trans HWL.out B6.out.size)); clear h5 b5)
    | (go_at_call 90; refine (put08 2 rfl O5.out (B5.out.size) He.out (by decide) (by decide)).mono ?_; rintro e w6 ⟨v6, rfl, h5, b5⟩; have B6 := Lib.hid (B5.out.trans b5); have O6 := Lib.hid h5; have f6a := cell_later B6.out F0a.out; have f6b := cell_later B6.out F0b.out; have f6c := cell_later B6.out F0c.out; have f6d := cell_later B6.out F0d.out; have f6e := cell_later B6.out F0e.out; clear h5 b5)
    | (go_at_call 90; refine (put08 2 rfl O4.out (B4.out.size) Hd.out (by decide) (by decide)).mono ?_; rintro e w5 ⟨v5, rfl, h5, b5⟩; have B5 := Lib.hid (B4.out.trans b5); have O5 := Lib.hid h5; have f5a := cell_later B5.out F0a.out; have f5b := cell_later B5.out F0b.out; have f5c := cell_later B5.out F0c.out; have f5d := cell_later B5.out F0d.out; have f5e := cell_later B5.out F0e.out; clear h5 b5)
    | (go_at_call 90; refine (put08 1 rfl O3.out (B3.out.size) Hc.out (by decide) (by decide)).mono ?_; rintro e w4 ⟨v4, rfl, h5, b5⟩; have B4 := Lib.hid (B3.out.trans b5); have O4 := Lib.hid h5; have f4a := cell_later B4.out F0a.out; have f4b := cell_later B4.out F0b.out; have f4c := cell_later B4.out F0c.out; have f4d := cell_later B4.out F0d.out; have f4e := cell_later B4.out F0e.out; clear h5 b5)
    | (go_at_call 90; refine (put08 1 rfl O2.out (B2.out.size) Hb.out (by decide) (by decide)).mono ?_; rintro e w3 ⟨v3, rfl, h5, b5⟩; have B3 := Lib.hid (B2.out.trans b5); have O3 := Lib.hid h5; have f3a := cell_later B3.out F0a.out; have f3b := cell_later B3.out F0b.out; have f3c := cell_later B3.out F0c.out; have f3d := cell_later B3.out F0d.out; have f3e := cell_later B3.out F0e.out; clear h5 b5)
    | (go_at_call 90; refine (put08 2 rfl O1.out (B1.out.size) Ha.out (by decide) (by decide)).mono ?_; rintro e w2 ⟨v2, rfl, h5, b5⟩; have B2 := Lib.hid (B1.out.trans b5); have O2 := Lib.hid h5; have f2a := cell_later B2.out F0a.out; have f2b := cell_later B2.out F0b.out; have f2c := cell_later B2.out F0c.out; have f2d := cell_later B2.out F0d.out; have f2e := cell_later B2.out F0e.out; clear h5 b5)
    | (at_builtin; refine wp_append_text8 rfl (.tmp 33) _ rfl (w.heap.size + 1) 0 _ [] rfl HM.out _ rfl (by decide) (by simp) ?_; intro v1 w1 hown1 hb1; have hb2 := HN.out.trans hb1; rw [← World.size_alloc w (.cells #[.int .i64 a, .int .i64 b, .int .i64 c, .int .i64 d, .int .i64 e] 32), ← HW.out] at hown1 hb2; have B1 := Lib.hid hb2; have O1 : Hid (w1.ownsRow W.heap.size 5 1 v1 4 (dryd.map (Value.int .u8))) := Lib.hid hown1; have f1a := cell_later B1.out F0a.out; have f1b := cell_later B1.out F0b.out; have f1c := cell_later B1.out F0c.out; have f1d := cell_later B1.out F0d.out; have f1e := cell_later B1.out F0e.out; clear hown1 hb1 hb2))
  go_ret2
  exact ⟨_, by rw [HE.out.1]; rfl, by rw [HE.out.2]; exact R7.out, HBW.out.trans (B7.out.mono HWL.out)⟩

end Go.Proofs.YtmcblhgpcgnaoaaGreatDoor

