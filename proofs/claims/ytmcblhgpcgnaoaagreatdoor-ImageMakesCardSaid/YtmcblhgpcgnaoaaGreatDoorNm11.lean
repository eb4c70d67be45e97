/-
  Proved here: the blocks that the landed tree lays a chart's pages into (blocks). The conditions stand at each theorem. Proved here: what the landed code of package field answers: Sealed. The conditions stand at each theorem. Proved here: how the landed tree reads a page out of the block that it lies in (fetch), where that block is there and is one of pointers. The conditions stand at each theorem. Proved here: how the landed tree reads a page out of the block that it lies in (fetch). The conditions stand at each theorem. Proved here: whether a number is among others (slices.Index, slices.Contains of numbers). The conditions stand at each theorem. Proved here: what the landed tree's Plan answers. The conditions stand at each theorem. Proved here: how the landed tree reads a node's pages out of the blocks that are there (gather), where all of them are there. The conditions stand at each theorem.
-/
import Derived.Test.YtmcblhgpcgnaoaaGreatDoorNm10
import Derived.Test.YtmcblhgpcgnaoaaGreatDoorNm1
import Derived.Test.YtmcblhgpcgnaoaaGreatDoorNm9
import Derived.Deep.RegionWith
import Derived.Deep.QuietTactic
import Derived.BigQuiet
import Derived.Deep.RegionHeld3
import Derived.Test.YtmcblhgpcgnaoaaGreatDoorNm0
namespace Go.Proofs.YtmcblhgpcgnaoaaGreatDoor
open Go.RowKit
set_option linter.unusedVariables false
set_option linter.unusedSimpArgs false

/-- A list of writes: its cells. -/
def WIs (w : World) (ao : Option Addr) (m : Nat) (ws : List (Int × List Int)) : Prop :=
  ws.length = m ∧ m ≤ 140737488351232 ∧ (m = 0 ∨ ∃ b off, ao = some ⟨b, off, none⟩ ∧ ∀ (j : Nat) (a : Int) (zs : List Int), ws[j]? = some (a, zs) → w.cell? ⟨b, off + j * 2, none⟩ = some (.int .i64 a) ∧ I64 a ∧
    ∃ ad len cap, w.cell? ⟨b, off + j * 2 + 1, none⟩ = some (.slice ad len cap) ∧ Arg w ad len cap zs)

theorem WIs.later {w wx : World} {ao : Option Addr} {m : Nat} {ws : List (Int × List Int)} (h : WIs w ao m ws) (hb : Below w.heap.size w wx) : WIs wx ao m ws := by
  obtain ⟨h1, h2, h3⟩ := h
  refine ⟨h1, h2, h3.imp_right ?_⟩
  rintro ⟨b, off, rfl, hc⟩
  refine ⟨b, off, rfl, fun j a zs hj => ?_⟩
  obtain ⟨c1, c2, ad, len, cap, c3, c4⟩ := hc j a zs hj
  exact ⟨cell_later hb c1, c2, ad, len, cap, cell_later hb c3, c4.later hb⟩

theorem WIs.at {w : World} {ao : Option Addr} {m i : Nat} {ws : List (Int × List Int)} (h : WIs w ao m ws) (hi : i < m) : ∃ b off a zs ad len cap, ao = some ⟨b, off, none⟩ ∧ ws[i]? = some (a, zs) ∧
    w.cell? ⟨b, off + i * 2, none⟩ = some (.int .i64 a) ∧ I64 a ∧ w.cell? ⟨b, off + i * 2 + 1, none⟩ = some (.slice ad len cap) ∧ Arg w ad len cap zs := by
  obtain ⟨h1, h2, h3⟩ := h
  obtain ⟨b, off, rfl, hc⟩ := h3.resolve_left (by omega)
  have hx : ws[i]? = some (ws[i]'(by omega)) := List.getElem?_eq_getElem (by omega)
  obtain ⟨c1, c2, ad, len, cap, c3, c4⟩ := hc i _ _ hx
  exact ⟨b, off, _, _, ad, len, cap, rfl, hx, c1, c2, c3, c4⟩

theorem elemW : ElemR 35 66 (.agg #[.int .i64 0, .slice none 0 0]) 2 32 := ⟨Tryz.underlying35, by kernel_rfl, rfl, by decide, by decide⟩

/-- Where a row lies behind 'append'. -/
theorem append_block {t e : TypeId} {z : Value} {sz nb : Nat} (hE : ElemR t e z sz nb) (w : World) (ty : TypeId) (base n : Nat) (v v' : Value) (w' : World) (xs : List Value) (hown : w.ownsRow base e sz v n xs) (ad : Addr) (m c : Nat) (news : List Value) (hl : news.length = m * sz)
    (hx : ∀ j u, news[j]? = some u → w.cell? (ad.add j) = some u) (h1 : ∀ u ∈ news, u.oneCell' = true) (hb : n + m ≤ 100000) (hm : 0 < m)
    (hr : (Builtin.append_ #[t, t] ty #[v, .slice (some ad) m c]).run Tryz.prog w = .ok v' w') : v'.ownBlock = v.ownBlock ∨ v'.ownBlock = some w.heap.size := by
  obtain ⟨hu, hi, hz, hp, hnb⟩ := hE
  obtain ⟨i0, hi0, hz0, hz1, hz2⟩ := info_parts hi
  have hbytes : (n + m) * i0.bytes ≤ 140737488355328 := by
    rw [hz2]
    have : (n + m) * nb ≤ 100001 * 64 := Nat.mul_le_mul (by omega) hnb
    omega
  subst hz1
  rcases hown.2 with ⟨rfl, rfl⟩ | ⟨g, cap, cur, rfl, hbg, hg, hnc, hcm, hcs, htake⟩
  · have h := run_append_nil (P := Tryz.prog) w t ty e i0 z hu hi0 hz0 ad m c news hl hx hm (by omega) (by rw [Nat.zero_add] at hbytes; omega)
    rw [hr] at h
    cases h
    exact Or.inr rfl
  · by_cases hroom : n + m ≤ cap
    · have h := run_append_room (P := Tryz.prog) w t ty e i0 hu hi0 g n cap cur hg ad m c news hl hx h1 hroom (by rw [hl, hcs, ← Nat.add_mul]; exact Nat.mul_le_mul_right _ hroom)
      rw [hr] at h
      cases h
      exact Or.inl rfl
    · have h := run_append_grow (P := Tryz.prog) w t ty e i0 z hu hi0 hz0 ⟨g, 0, none⟩ n cap xs hown.1 (hown.cells (g := g) rfl) ad m c news hl hx (by omega) (by omega) (growslice_fits (by omega) hbytes)
      rw [hr] at h
      cases h
      exact Or.inr rfl

section
variable {ops : Array Oper} {rest : List Oper} {o : Oper} {a : Act} {w : World} {Q : Exit → Act → World → Prop}

/-- 'append(dst, news...)', told with where the row lies. -/
theorem wp_append_at {t e : TypeId} {z : Value} {sz nb : Nat} (hE : ElemR t e z sz nb) (hgd : o.guard = none) (s y : Operand) (ho : o.op = .call { callee := .builtin .append, args := #[s, y], argTypes := #[t, t] })
    (base n : Nat) (v : Value) (xs : List Value) (hs : a.eval s = v) (hown : w.ownsRow base e sz v n xs) (ad : Addr) (m c : Nat) (news : List Value) (hl : news.length = m * sz) (hm : 0 < m) (hy : a.eval y = .slice (some ad) m c)
    (hx : ∀ j u, news[j]? = some u → w.cell? (ad.add j) = some u) (h1 : ∀ u ∈ news, u.oneCell' = true) (hb : n + m ≤ 100000) (hbase : base ≤ w.heap.size)
    (h : ∀ v' w', w'.ownsRow base e sz v' (n + m) (xs ++ news) → w.grownBy w' v.ownBlock → Below base w w' → (v'.ownBlock = v.ownBlock ∨ v'.ownBlock = some w.heap.size) → wpList Tryz.prog ops Q rest (a.put o.dst v') w') : wpList Tryz.prog ops Q (o :: rest) a w := by
  have hE2 := hE
  obtain ⟨hu, hi, hz, hp, hnb⟩ := hE
  obtain ⟨i0, hi0, hz0, hz1, hz2⟩ := info_parts hi
  obtain ⟨v', w', hrun, h2, h3, _⟩ := run_append_own (P := Tryz.prog) w base t o.type e i0 z sz nb hu hi0 hz0 hz1 hz2 hz hp v n xs hown ad m c news hl hx h1
      (by unfold maxLen; omega) (by have : (n + m) * nb ≤ 100001 * 64 := Nat.mul_le_mul (by omega) hnb
                                    omega) hbase
  have h4 := append_block hE2 w o.type base n v v' w' xs hown ad m c news hl hx h1 hb hm hrun
  refine wpList_plain hgd fun K hK => ?_
  unfold Oper.wp
  simp [execOp, ho, resolve, invoke, builtin, hs, hy, hrun, Result.andThen]
  exact hK _ _ (h v' w' h2 h3 ((Below.refl base w).grown h3 hbase (fun k hk => (hown.lt k hk).1)) h4)
end

/-- A list of writes of the call's own, each text in a block apart from the row. -/
def WOwn (base : Nat) (w : World) (v : Value) (ws : List (Int × List Int)) : Prop :=
  ∃ xs, w.ownsRow base 66 2 v ws.length xs ∧ ∀ (j : Nat) (a : Int) (zs : List Int), ws[j]? = some (a, zs) → xs[j * 2]? = some (.int .i64 a) ∧ I64 a ∧ ∃ db off cap, xs[j * 2 + 1]? = some (.slice (some ⟨db, off, none⟩) 64 cap) ∧ (base ≤ db ∧ db < w.heap.size) ∧ v.ownBlock ≠ some db ∧ Arg w (some ⟨db, off, none⟩) 64 cap zs

theorem WOwn.nil (base : Nat) (w : World) : WOwn base w (.slice none 0 0) [] := ⟨[], owns_nil_r _ _ _ _, fun j a zs h => by simp at h⟩

theorem arg_grown {w w' : World} {db off len cap : Nat} {zs : List Int} {row : Option Nat} (h : Arg w (some ⟨db, off, none⟩) len cap zs) (hg : w.grownBy w' row) (hne : row ≠ some db) : Arg w' (some ⟨db, off, none⟩) len cap zs := by
  obtain ⟨⟨h1, h2, h3, h4⟩, h5⟩ := h
  refine ⟨⟨h1, h2, h3, h4.imp_right ?_⟩, h5⟩
  rintro ⟨b, o, he, hc⟩
  simp only [Option.some.injEq, Addr.mk.injEq, and_true] at he
  obtain ⟨rfl, rfl⟩ := he
  exact ⟨db, off, rfl, fun j hj => hg.cell (hc j hj) (fun e => hne e.symm)⟩

theorem WOwn.snoc {base : Nat} {wr wx w4 : World} {v v' : Value} {ws : List (Int × List Int)} {a : Int} {zs : List Int} {xs : List Value} {db off cap : Nat} {ob : Obj}
    (h1 : wr.ownsRow base 66 2 v ws.length xs) (h2 : ∀ (j : Nat) (a : Int) (zs : List Int), ws[j]? = some (a, zs) → xs[j * 2]? = some (.int .i64 a) ∧ I64 a ∧ ∃ db off cap, xs[j * 2 + 1]? = some (.slice (some ⟨db, off, none⟩) 64 cap) ∧ (base ≤ db ∧ db < wr.heap.size) ∧ v.ownBlock ≠ some db ∧ Arg wr (some ⟨db, off, none⟩) 64 cap zs)
    (hb : Below wr.heap.size wr wx) (hbs : base ≤ wr.heap.size) (ha : I64 a) (hd : wr.heap.size ≤ db) (hd2 : db < wx.heap.size) (hA : Arg wx (some ⟨db, off, none⟩) 64 cap zs)
    (hown : w4.ownsRow base 66 2 v' (ws.length + 1) (xs ++ [.int .i64 a, .slice (some ⟨db, off, none⟩) 64 cap])) (hg : (wx.alloc ob).grownBy w4 v.ownBlock) (hv : v'.ownBlock = v.ownBlock ∨ v'.ownBlock = some (wx.alloc ob).heap.size) : WOwn base w4 v' (ws ++ [(a, zs)]) := by
  have hxl : xs.length = ws.length * 2 := h1.1
  have hsz : wr.heap.size ≤ wx.heap.size := hb.size
  have hsz4 : (wx.alloc ob).heap.size ≤ w4.heap.size := hg.size
  rw [World.size_alloc] at hsz4
  have hal : ∀ {d o l c : Nat} {y : List Int}, Arg wx (some ⟨d, o, none⟩) l c y → Arg (wx.alloc ob) (some ⟨d, o, none⟩) l c y := fun h => h.later ((Below.refl _ _).alloc (Nat.le_refl _) _)
  refine ⟨_, by rw [List.length_append]; exact hown, fun j b ys hj => ?_⟩
  by_cases hjl : j < ws.length
  · rw [List.getElem?_append_left hjl] at hj
    obtain ⟨c1, c2, d, o, c, c3, c4, c5, c6⟩ := h2 j b ys hj
    refine ⟨by rw [List.getElem?_append_left (by omega)]; exact c1, c2, d, o, c, by rw [List.getElem?_append_left (by omega)]; exact c3, ⟨c4.1, by omega⟩, ?_, arg_grown (hal (c6.later hb)) hg c5⟩
    rcases hv with e | e
    · rw [e]; exact c5
    · rw [e, World.size_alloc]
      intro h
      simp at h
      omega
  · have hj0 : j = ws.length := by
      have := (List.getElem?_eq_some_iff.1 hj).1
      simp at this
      omega
    subst hj0
    rw [List.getElem?_append_right (Nat.le_refl _), Nat.sub_self] at hj
    simp at hj
    obtain ⟨rfl, rfl⟩ := hj
    have hvd : v.ownBlock ≠ some db := fun e => by have := (h1.lt db e).2; omega
    refine ⟨by rw [List.getElem?_append_right (by omega), hxl, Nat.sub_self]; rfl, ha, db, off, cap, by rw [List.getElem?_append_right (by omega), show ws.length * 2 + 1 - xs.length = 1 by omega]; rfl, ⟨by omega, by omega⟩, ?_, arg_grown (hal hA) hg hvd⟩
    rcases hv with e | e
    · rw [e]; exact hvd
    · rw [e, World.size_alloc]
      intro h
      simp at h
      omega

theorem owns_keeps {w w' : World} {base n sz g : Nat} {e : TypeId} {v : Value} {xs : List Value} (h : w.ownsRow base e sz v n xs) (hk : Keeps g w w') (hg : g < base) : w'.ownsRow base e sz v n xs := by
  refine ⟨h.1, h.2.imp_right ?_⟩
  rintro ⟨b, cap, cur, hv, hb, hh, rest⟩
  exact ⟨b, cap, cur, hv, hb, by rw [hk.2 b (by omega)]; exact hh, rest⟩
theorem arg_keeps {w w' : World} {db off len cap g : Nat} {zs : List Int} (h : Arg w (some ⟨db, off, none⟩) len cap zs) (hk : Keeps g w w') (hne : db ≠ g) : Arg w' (some ⟨db, off, none⟩) len cap zs := by
  obtain ⟨⟨h1, h2, h3, h4⟩, h5⟩ := h
  refine ⟨⟨h1, h2, h3, h4.imp_right ?_⟩, h5⟩
  rintro ⟨b, o, he, hc⟩
  simp only [Option.some.injEq, Addr.mk.injEq, and_true] at he
  obtain ⟨rfl, rfl⟩ := he
  exact ⟨db, off, rfl, fun j hj => by rw [hk.cell (p := ⟨db, off + j, none⟩) hne]; exact hc j hj⟩
theorem WOwn.keeps {base g : Nat} {w w' : World} {v : Value} {ws : List (Int × List Int)} (h : WOwn base w v ws) (hk : Keeps g w w') (hg : g < base) : WOwn base w' v ws := by
  obtain ⟨xs, ho, hx⟩ := h
  refine ⟨xs, owns_keeps ho hk hg, fun j a zs hj => ?_⟩
  obtain ⟨c1, c2, d, o, c, c3, c4, c5, c6⟩ := hx j a zs hj
  exact ⟨c1, c2, d, o, c, c3, ⟨c4.1, by rw [hk.1]; exact c4.2⟩, c5, arg_keeps c6 hk (by omega)⟩
theorem WOwn.mono {base base' : Nat} {w : World} {v : Value} {ws : List (Int × List Int)} (h : WOwn base' w v ws) (hb : base ≤ base') : WOwn base w v ws := by
  obtain ⟨xs, ho, hx⟩ := h
  refine ⟨xs, owns_mono_r ho hb, fun j a zs hj => ?_⟩
  obtain ⟨c1, c2, d, o, c, c3, c4, c5, c6⟩ := hx j a zs hj
  exact ⟨c1, c2, d, o, c, c3, ⟨by omega, c4.2⟩, c5, c6⟩
theorem WOwn.later {base : Nat} {w w' : World} {v : Value} {ws : List (Int × List Int)} (h : WOwn base w v ws) (hb : Below w.heap.size w w') : WOwn base w' v ws := by
  obtain ⟨xs, ho, hx⟩ := h
  refine ⟨xs, owns_later_r ho hb, fun j a zs hj => ?_⟩
  obtain ⟨c1, c2, d, o, c, c3, c4, c5, c6⟩ := hx j a zs hj
  have := hb.size
  exact ⟨c1, c2, d, o, c, c3, ⟨c4.1, by omega⟩, c5, c6.later hb⟩

/-- What the blocks of a chart hold: each page that lies in one. -/
def blocksL (L : List Int) (i : Nat) : List (Int × List Int) := (List.range i).flatMap fun k => if L.getD (154 + k) 0 = 0 then [] else [(L.getD (154 + k) 0, pageB (pageL L k))]
theorem blocksL_succ (L : List Int) (i : Nat) : blocksL L (i + 1) = blocksL L i ++ (if L.getD (154 + i) 0 = 0 then [] else [(L.getD (154 + i) 0, pageB (pageL L i))]) := by
  unfold blocksL
  rw [List.range_succ, List.flatMap_append]
  simp
theorem blocksL_le (L : List Int) : ∀ i, (blocksL L i).length ≤ i
  | 0 => Nat.zero_le _
  | i + 1 => by
    have := blocksL_le L i
    rw [blocksL_succ, List.length_append]
    split <;> simp <;> omega

theorem uAt : Tryz.prog.underlying 272 = some (.array 5 3) := Tryz.underlying272
theorem iAt {p : List Int} (h : p.length = 5) : (Tryz.prog.info? 272).map (·.size) = some (ints p).length := by rw [ints_length, h]; kernel_rfl

set_option maxRecDepth 100000 in
set_option maxHeartbeats 6400000 in
theorem blocks_any (g : Nat) (L : List Int) (w : World) (hC : ChartAt w g L) (hz : ∀ z ∈ L, 0 ≤ z ∧ z ≤ 65535) :
    Calls Tryz.prog 206 #[.pointer (some ⟨g, 0, none⟩)] w fun e w' => ∃ v, e = .returned v ∧ WOwn w.heap.size w' v (blocksL L 5) ∧ Below w.heap.size w w' := by
  have HC := Lib.hid hC
  have HZ := Lib.hid hz
  have HLL := Lib.hid hC.1
  have HAR : Hid (w.rangeAt g 154 (ints ((L.drop 154).take 5))) := Lib.hid (range_part hC.2 154 5)
  have hl5 : ((L.drop 154).take 5).length = 5 := by rw [List.length_take, List.length_drop, hC.1]; decide
  have HI5 := Lib.hid (iAt hl5)
  have HIDX : Hid (∀ (i : Nat), i < 5 → ∀ W, (Instr.index 272 (.agg (ints ((L.drop 154).take 5)).toArray) (.int .i64 (i : Int))).run Tryz.prog W = .ok (.int .i64 (L.getD (154 + i) 0)) W) := Lib.hid (fun i hi W => by
    have h := idx_ints uAt hl5 hi W
    rw [take_getD' _ _ _ hi, drop_getD'] at h
    exact h)
  generalize (L.drop 154).take 5 = A5 at *
  clear hC hz hl5
  go_enter Tryz.func206, Tryz.ntmps206
  go_wp2_with (refine wpList_load_mid rfl 272 (.tmp 8) rfl g 154 rfl (ints A5) _ HAR.out uAt rfl HI5.out ?_)
  go_loopw [3, 10] (fun sv iv wr => ∃ i : Nat, iv = .int .i64 (i : Int) ∧ i ≤ 5 ∧ Hid (WOwn w.heap.size wr sv (blocksL L i)) ∧ Hid (Below w.heap.size w wr)) (fun _ iv _ => 5 - (intOf iv).toNat)
  case atStart => exact ⟨0, rfl, Nat.zero_le _, Lib.hid (WOwn.nil _ _), Lib.hid (Below.refl _ _)⟩
  case round =>
    obtain ⟨i, rfl, hi, HW, HB⟩ := hrel
    by_cases hlt : i < 5
    · have i1 : (i : Int) < 5 := by omega
      have i2 : i < 5 := hlt
      have HIX := Lib.hid (HIDX.out i hlt)
      have HS := Lib.hid (blocksL_succ L i)
      have hx : 0 ≤ L.getD (154 + i) 0 ∧ L.getD (154 + i) 0 ≤ 65535 := HZ.out _ (by rw [List.getD_eq_getElem?_getD, List.getElem?_eq_getElem (by rw [HLL.out]; omega)]; exact List.getElem_mem _)
      have hpl : (pageL L i).length = 30 := pageL_length HLL.out hlt
      have cW := fun W => trWrite_any (pageL L i) W hpl (fun x hx => HZ.out x (List.mem_of_mem_drop (List.mem_of_mem_take hx)))
      have HPR : Hid (wr.rangeAt g (4 + i * 30) (ints (pageL L i))) := Lib.hid ((HC.out.later HB.out).page i)
      have HPI := Lib.hid (iPage hpl)
      unfold pageV at cW
      generalize L.getD (154 + i) 0 = x at *
      by_cases h0 : x = 0
      · subst h0
        have HS2 : Hid (blocksL L (i + 1) = blocksL L i) := Lib.hid (by rw [HS.out, if_pos rfl, List.append_nil])
        clear cW HS hx hpl
        go_wp2_with (refine wp_idx rfl (.tmp 9) (.tmp 10) 272 rfl _ HIX.out ?_)
        go_roundw
        case rel => exact ⟨i + 1, by go_num, by omega, Lib.hid (by rw [HS2.out]; exact HW.out), HB⟩
        case measure => simp [intOf]; omega
      · have HS2 : Hid (blocksL L (i + 1) = blocksL L i ++ [(x, pageB (pageL L i))]) := Lib.hid (by rw [HS.out, if_neg h0])
        have hle := blocksL_le L i
        have HX : Hid (I64 x) := Lib.hid ⟨by omega, by omega⟩
        obtain ⟨xs, ho, hxs⟩ := HW.out
        obtain ⟨ra, rc, rfl⟩ := owns_shape_r ho
        have HO := Lib.hid ho
        have HXS := Lib.hid hxs
        have HLE := Lib.hid hle
        have b0 : (x == 0) = false := by simpa using h0
        have HP64 : Hid ((pageB (pageL L i)).length = 64) := Lib.hid (page_sealed (by omega)).1
        obtain ⟨n, hn⟩ : ∃ n, (blocksL L i).length = n := ⟨_, rfl⟩
        have HN := Lib.hid hn
        rw [hn] at hle
        rw [hn] at HO HXS
        rw [hn]
        clear hx hpl ho hxs HS h0 hn
        go_wp2_with (first
          | (refine wp_idx rfl (.tmp 9) (.tmp 10) 272 rfl _ HIX.out ?_)
          | (refine wpList_load_mid rfl 267 (.tmp 22) rfl g (4 + i * 30) rfl (ints (pageL L i)) _ HPR.out uPage rfl HPI.out ?_)
          | (go_at_call 253; refine (cW _).mono ?_; rintro e w5 ⟨v5, rfl, hf, hb⟩; obtain ⟨da, dc, rfl, hA5, hf5⟩ := hf; obtain ⟨db, doff, rfl, hdb, _⟩ := hf5.resolve_left (by intro h; have := congrArg List.length h; rw [HP64.out] at this; simp at this); rw [HP64.out] at hA5; rw [HP64.out]; have HA5 := Lib.hid hA5; have HDB := Lib.hid hdb; have HB5 := Lib.hid hb; clear hA5 hf5 hdb hb)
          | (at_builtin; refine wp_append_at elemW rfl (.tmp 16) (.tmp 26) rfl w.heap.size n _ xs rfl ((owns_later_r HO.out HB5.out).alloc _) ⟨w5.heap.size, 0, none⟩ 1 1 [.int .i64 x, .slice (some ⟨db, doff, none⟩) 64 dc] rfl (by decide) rfl (news_r w5 [.int .i64 x, .slice (some ⟨db, doff, none⟩) 64 dc] _) (by intro q hq; simp only [List.mem_cons, List.mem_nil_iff, or_false] at hq; rcases hq with rfl | rfl <;> rfl) (by omega) (by have h1 := HB.out.size; have h2 := HB5.out.size; simp; omega) ?_; intro v6 w6 hown6 hg6 hb6 hv6; have HO6 := Lib.hid hown6; have HG6 := Lib.hid hg6; have HB6 := Lib.hid hb6; have HV6 := Lib.hid hv6; clear hown6 hg6 hb6 hv6))
        have HLT : Hid (db < w5.heap.size) := Lib.hid (by
          obtain ⟨b', o', he, hc⟩ := HA5.out.1.2.2.2.resolve_left (by decide)
          simp only [Option.some.injEq, Addr.mk.injEq, and_true] at he
          obtain ⟨rfl, rfl⟩ := he
          exact World.block_lt_of_cell? _ _ (hc 0 (by decide)))
        go_roundw
        case rel => exact ⟨i + 1, by go_num, by omega, Lib.hid (by
          rw [HS2.out]
          exact WOwn.snoc (v := .slice ra n rc) (by rw [HN.out]; exact HO.out) HXS.out HB5.out HB.out.size HX.out HDB.out HLT.out HA5.out (by rw [HN.out]; exact HO6.out) HG6.out HV6.out), Lib.hid (((HB.out.trans (HB5.out.mono HB.out.size)).alloc (by have h1 := HB.out.size; have h2 := HB5.out.size; omega) _).trans HB6.out)⟩
        case measure => simp [intOf]; omega
    · obtain rfl : i = 5 := by omega
      go_wp2_with fail
      go_ret
      exact ⟨_, rfl, HW.out, HB.out⟩

end Go.Proofs.YtmcblhgpcgnaoaaGreatDoor


namespace Go.Proofs.YtmcblhgpcgnaoaaGreatDoor
open Go.RowKit

set_option maxHeartbeats 400000 in
theorem fSealed_any (ao : Option Addr) (len cap : Nat) (zs : List Int) (w : World) (hA : Arg w ao len cap zs) :
    Calls Tryz.prog 114 #[.slice ao len cap] w (Says w.heap.size w (sealedB zs)) := by
  have hl := hA.1.1
  by_cases h64 : len = 64
  · subst h64
    have hz := hA.1.2.2.1
    have HV : Hid (((str (zs.drop 60)).toList == (str (leB (sumS (zs.take 60)) 4)).toList) = sealedB zs) := Lib.hid (by
      rw [str_eq (fun z h => hz z (List.mem_of_mem_drop h)) (leB_bytes _ _)]
      unfold sealedB
      rw [sealOf_take hl, Bool.eq_iff_iff, decide_eq_true_iff, decide_eq_true_iff]
      have e : zs.take 60 ++ zs.drop 60 = zs := List.take_append_drop 60 zs
      constructor
      · intro h
        rw [← h]
        exact ⟨hl, e⟩
      · intro h
        have h2 := h.2
        conv at h2 => rhs; rw [← e]
        exact (List.append_cancel_left h2).symm)
    have cS := fSum_any ao cap zs w.drew (show Arg w.drew ao 64 cap zs from hA)
    obtain ⟨hB, _, hcap, _⟩ := hA
    obtain ⟨b, off, rfl, _⟩ := hB.2.2.2.resolve_left (by decide)
    have hD : Bts w.drew (some ⟨b, off + 60, none⟩) 4 (zs.drop 60) := bts_drop (k := 60) (show Bts w.drew (some ⟨b, off, none⟩) 64 zs from hB) (by decide)
    have HD := Lib.hid hD
    have s0 := str_bytes (cap := cap - 60) hD
    clear hB hD hl hz
    have hcne : ¬ cap = 60 := by omega
    have i2 : (60 : Int) ≤ (cap : Int) := by omega
    go_enter Tryz.func114, Tryz.ntmps114
    go_wp2_with fail
    go_region_with (first | (go_at_call 163; refine cS.mono ?_; rintro e w5 ⟨rfl, b5⟩; have B5 := Lib.hid b5; have s2 := str_bytes (cap := cap - 60) (HD.out.later b5); clear b5))
    all_goals (go_wp2_with fail; go_ret; exact ⟨by rw [← HV.out]; rfl, (Below.refl _ _).drew.trans B5.out⟩)
  · have hv : sealedB zs = false := by
      unfold sealedB
      rw [hl]
      simp [h64]
    have hne : ((len : Int) == 64) = false := by simp; omega
    rw [hv]
    go_enter Tryz.func114, Tryz.ntmps114
    go_wp2_with fail
    go_quiet (fail)
    go_wp2_with fail
    go_ret
    exact ⟨rfl, below_drewN (Below.refl _ _) _⟩

end Go.Proofs.YtmcblhgpcgnaoaaGreatDoor


namespace Go.Proofs.YtmcblhgpcgnaoaaGreatDoor
open Go.RowKit
set_option linter.unusedVariables false
set_option linter.unusedSimpArgs false

theorem find_index {ws : List (Int × List Int)} {q : Int} {zs : List Int} (h : findW ws q = some zs) : ∃ k, ws[k]? = some (q, zs) ∧ ∀ (j : Nat) (a : Int) (ys : List Int), j < k → ws[j]? = some (a, ys) → a ≠ q := by
  unfold findW at h
  induction ws with
  | nil => simp at h
  | cons w r ih =>
    rw [List.find?_cons] at h
    by_cases hw : w.1 = q
    · rw [decide_eq_true hw] at h
      simp at h
      refine ⟨0, ?_, fun j a ys hj => absurd hj (Nat.not_lt_zero j)⟩
      show some w = _
      rw [← hw, ← h]
    · rw [decide_eq_false hw] at h
      obtain ⟨k, h1, h2⟩ := ih h
      refine ⟨k + 1, h1, fun j a ys hj hjs => ?_⟩
      cases j with
      | zero =>
        have : w = (a, ys) := by simpa using hjs
        rw [this] at hw
        exact hw
      | succ j => exact h2 j a ys (by omega) (by simpa using hjs)

def wV (a : Int) (ad : Option Addr) (l c : Nat) : Value := .agg #[.int .i64 a, .slice ad l c]

/-- What a closure over a chart and a page's number reads. -/
structure Caps (w : World) (g B1 B2 i : Nat) (q : Int) : Prop where
  c1 : w.cell? ⟨B1, 0, none⟩ = some (.pointer (some ⟨g, 0, none⟩))
  c2 : w.cell? ⟨B2, 0, none⟩ = some (.int .i64 (i : Int))
  c3 : w.cell? ⟨g, 154 + i, none⟩ = some (.int .i64 q)
theorem Caps.later {w wx : World} {g B1 B2 i : Nat} {q : Int} (h : Caps w g B1 B2 i q) (hb : Below w.heap.size w wx) : Caps wx g B1 B2 i q := ⟨cell_later hb h.c1, cell_later hb h.c2, cell_later hb h.c3⟩

set_option maxRecDepth 100000 in
set_option maxHeartbeats 1600000 in
theorem fetch1_any (a : Int) (ad : Option Addr) (l c : Nat) {g B1 B2 i : Nat} {q : Int} (w : World) (hC : Caps w g B1 B2 i q) (hi : i < 5) :
    Calls Tryz.prog 263 #[wV a ad l c, .pointer (some ⟨B1, 0, none⟩), .pointer (some ⟨B2, 0, none⟩)] w fun e w' => e = .returned (.bool (decide (a = q))) ∧ Below w.heap.size w w' := by
  have HC : Hid (∀ o, Caps (w.alloc o) g B1 B2 i q) := Lib.hid (fun o => hC.later ((Below.refl _ _).alloc (Nat.le_refl _) _))
  have c1 := fun o => (HC.out o).c1
  have c2 := fun o => (HC.out o).c2
  have c3 := fun o => (HC.out o).c3
  have HB : Hid (∀ o, Below w.heap.size w (w.alloc o)) := Lib.hid (fun o => (Below.refl _ _).alloc (Nat.le_refl _) _)
  have i1 : (i : Int) < 5 := by omega
  have i0 : (0 : Int) ≤ (i : Int) := by omega
  have e1 : (a == q) = decide (a = q) := by
    by_cases h : a = q
    · rw [decide_eq_true h]; simpa using h
    · rw [decide_eq_false h]; simpa using h
  have HE := Lib.hid e1
  clear hC e1
  unfold wV
  go_enter Tryz.func263, Tryz.ntmps263
  go_wp2_with fail
  go_quiet (fail)
  go_wp2_with fail
  go_ret
  exact ⟨by rw [← HE.out]; rfl, below_drewN (HB.out _) _⟩

set_option maxRecDepth 100000 in
set_option maxHeartbeats 1600000 in
theorem indexW_any {w : World} {ao : Option Addr} {m cap g B1 B2 i k : Nat} {q : Int} {ws : List (Int × List Int)} {zs : List Int} (hL : WIs w ao m ws) (hC : Caps w g B1 B2 i q) (hi5 : i < 5) (hk : ws[k]? = some (q, zs)) (hk2 : ∀ (j : Nat) (a : Int) (ys : List Int), j < k → ws[j]? = some (a, ys) → a ≠ q) :
    Calls Tryz.prog 262 #[.slice ao m cap, .func (.func 263) #[] #[.pointer (some ⟨B1, 0, none⟩), .pointer (some ⟨B2, 0, none⟩)]] w fun e w' => e = .returned (.int .i64 (k : Int)) ∧ Below w.heap.size w w' := by
  have HL := Lib.hid hL
  have HC := Lib.hid hC
  have HK := Lib.hid hk
  have HK2 := Lib.hid hk2
  have hm := hL.2.1
  have hkm : k < m := by
    have := (List.getElem?_eq_some_iff.1 hk).1
    have := hL.1
    omega
  clear hL hC hk hk2
  go_enter Tryz.func262, Tryz.ntmps262
  go_wp2_with fail
  go_loopw [8] (fun iv wr => ∃ n : Nat, iv = .int .i64 (n : Int) ∧ n ≤ k ∧ Hid (Below w.heap.size w wr)) (fun iv _ => m - (intOf iv).toNat)
  case atStart => exact ⟨0, rfl, Nat.zero_le _, Lib.hid (Below.refl _ _)⟩
  case round =>
    obtain ⟨n, rfl, hn, HB⟩ := hrel
    have hlt : n < m := by omega
    obtain ⟨b, off, x, ys, ad, l, c, rfl, hp, d1, _, d2, _⟩ := (HL.out.later HB.out).at hlt
    have i1 : (n : Int) < (m : Int) := by omega
    have cF := fetch1_any x ad l c wr (HC.out.later HB.out) hi5
    unfold wV at cF
    by_cases he : n = k
    · subst he
      have hxq : x = q := by
        have h := HK.out
        rw [hp] at h
        simp at h
        exact h.1
      rw [decide_eq_true hxq] at cF
      clear hp hxq
      go_wp2_with (go_at_call 263; refine cF.mono ?_; rintro e w3 ⟨rfl, hb3⟩; have HB3 := Lib.hid hb3; clear hb3)
      go_ret
      exact ⟨rfl, HB.out.trans (HB3.out.mono HB.out.size)⟩
    · have hxq : x ≠ q := HK2.out n x ys (by omega) hp
      rw [decide_eq_false hxq] at cF
      clear hp hxq
      go_wp2_with (go_at_call 263; refine cF.mono ?_; rintro e w3 ⟨rfl, hb3⟩; have HB3 := Lib.hid hb3; clear hb3)
      go_roundw
      case rel => exact ⟨n + 1, by go_num, by omega, Lib.hid (HB.out.trans (HB3.out.mono HB.out.size))⟩
      case measure => simp [intOf]; omega

/-- No page: nothing is read. -/
theorem fetch0_any {w : World} {g i : Nat} {ao : Option Addr} {m cap : Nat} (hc : w.cell? ⟨g, 154 + i, none⟩ = some (.int .i64 0)) (hi : i < 5) :
    Calls Tryz.prog 223 #[.pointer (some ⟨g, 0, none⟩), .int .i64 (i : Int), .slice ao m cap] w fun e w' => e = .returned (.bool true) ∧ Below w.heap.size w w' := by
  have HB : Hid (∀ o p, Below w.heap.size w ((w.alloc o).alloc p)) := Lib.hid (fun o p => ((Below.refl _ _).alloc (Nat.le_refl _) _).alloc (by simp) _)
  have hc2 : ∀ o p, ((w.alloc o).alloc p).cell? ⟨g, 154 + i, none⟩ = some (.int .i64 0) := fun o p => cell_later (HB.out o p) hc
  have i1 : (i : Int) < 5 := by omega
  have i0 : (0 : Int) ≤ (i : Int) := by omega
  clear hc
  go_enter Tryz.func223, Tryz.ntmps223
  go_wp2_with fail
  go_quiet (fail)
  go_wp2_with fail
  go_ret
  exact ⟨rfl, below_drewN (HB.out _ _) _⟩

end Go.Proofs.YtmcblhgpcgnaoaaGreatDoor


namespace Go.Proofs.YtmcblhgpcgnaoaaGreatDoor
open Go.RowKit
set_option linter.unusedVariables false
set_option linter.unusedSimpArgs false

theorem page_parts {zs pg : List Int} (h : pageOf zs = some pg) : zs.length = 64 ∧ sealedB zs = true ∧ words zs = pg ∧ pg.any nzB = true ∧ apartL pg = true := by
  unfold pageOf at h
  split at h
  · next hc =>
    cases h
    simp only [Bool.and_eq_true, decide_eq_true_eq] at hc
    exact ⟨hc.1.1, decide_eq_true hc.1, rfl, hc.2.1, hc.2.2⟩
  · cases h

theorem there_later' {w wx : World} {b o n : Nat} (hb : Below w.heap.size w wx) (h : w.there b o n) (hlt : b < w.heap.size) : wx.there b o n := fun j hj => by
  obtain ⟨h1, h2⟩ := h j hj
  obtain ⟨u, hu⟩ := Option.isSome_iff_exists.1 h1
  exact ⟨by rw [cell_later hb hu]; rfl, by rw [hb.frozen (p := ⟨b, o + j, none⟩) hlt]; exact h2⟩

/-- The variables that a closure reads. -/
theorem caps_made {w : World} {g i : Nat} {q : Int} (hc : w.cell? ⟨g, 154 + i, none⟩ = some (.int .i64 q)) (T1 T2 : TypeId) : Caps ((w.alloc (.cells #[.pointer (some ⟨g, 0, none⟩)] T1)).alloc (.cells #[.int .i64 (i : Int)] T2)) g w.heap.size (w.heap.size + 1) i q := by
  have hb : Below w.heap.size w ((w.alloc (.cells #[.pointer (some ⟨g, 0, none⟩)] T1)).alloc (.cells #[.int .i64 (i : Int)] T2)) := ((Below.refl _ _).alloc (Nat.le_refl _) _).alloc (by simp) _
  refine ⟨?_, ?_, cell_later hb hc⟩
  · exact cell_later ((Below.refl _ _).alloc (Nat.le_refl _) _) (one_cell_new w _ T1)
  · have e : (w.alloc (.cells #[.pointer (some ⟨g, 0, none⟩)] T1)).heap.size = w.heap.size + 1 := World.size_alloc _ _
    have h2 := one_cell_new (w.alloc (.cells #[.pointer (some ⟨g, 0, none⟩)] T1)) (.int .i64 (i : Int)) T2
    rw [e] at h2
    exact h2

set_option maxRecDepth 100000 in
set_option maxHeartbeats 6400000 in
theorem fetchP_any {w0 w : World} {g i : Nat} {L : List Int} {ao : Option Addr} {m cap : Nat} {ws : List (Int × List Int)} {q : Int} {zs pg : List Int} (hO : OwnV w0.heap.size w0 g (ints L) w) (hL : L.length = 159) (hW : WIs w0 ao m ws) (hi : i < 5) (hq : L.getD (154 + i) 0 = q) (h0 : q ≠ 0) (hf : findW ws q = some zs) (hp : pageOf zs = some pg) :
    Calls Tryz.prog 223 #[.pointer (some ⟨g, 0, none⟩), .int .i64 (i : Int), .slice ao m cap] w fun e w' => e = .returned (.bool true) ∧ OwnV w0.heap.size w0 g (ints (lay L (4 + i * 30) pg)) w' := by
  obtain ⟨k, hk1, hk2⟩ := find_index hf
  obtain ⟨p1, p2, p3, p4, _⟩ := page_parts hp
  have hmk : k < m := by
    have := (List.getElem?_eq_some_iff.1 hk1).1
    have := hW.1
    omega
  obtain ⟨b, off, a, ys, ad, l, c, rfl, hks, _, _, d2, hA⟩ := hW.at hmk
  have hys : ys = zs := by
    rw [hk1] at hks
    simp at hks
    exact hks.2.symm
  subst hys
  have hl64 : l = 64 := by rw [← hA.1.1, p1]
  subst hl64
  have hne : ints L ≠ [] := by intro h; have := congrArg List.length h; rw [ints_length, hL] at this; simp at this
  have hcq : w.cell? ⟨g, 154 + i, none⟩ = some (.int .i64 q) := hO.1 _ _ (ints_get (by rw [← hq, List.getD_eq_getElem?_getD, List.getElem?_eq_getElem (by omega)]; rfl))
  have hglt : g < w.heap.size := World.block_lt_of_cell? _ _ hcq
  have HB : Hid (∀ o p, Below w.heap.size w ((w.alloc o).alloc p)) := Lib.hid (fun o p => ((Below.refl _ _).alloc (Nat.le_refl _) _).alloc (by simp) _)
  have hc2 : ∀ o p, ((w.alloc o).alloc p).cell? ⟨g, 154 + i, none⟩ = some (.int .i64 q) := fun o p => cell_later (HB.out o p) hcq
  have i1 : (i : Int) < 5 := by omega
  have i0 : (0 : Int) ≤ (i : Int) := by omega
  have b0 : (q == 0) = false := by simpa using h0
  have HM : Hid (∃ W, W = ((w.alloc (.cells #[.pointer (some ⟨g, 0, none⟩)] 231)).alloc (.cells #[.int .i64 (i : Int)] 3))) := Lib.hid ⟨_, rfl⟩
  have HIX : Hid (∀ W, Below w0.heap.size w0 W → Caps W g w.heap.size (w.heap.size + 1) i q → Calls Tryz.prog 262 #[.slice (some ⟨b, off, none⟩) m cap, .func (.func 263) #[] #[.pointer (some ⟨w.heap.size, 0, none⟩), .pointer (some ⟨w.heap.size + 1, 0, none⟩)]] W fun e w' => e = .returned (.int .i64 (k : Int)) ∧ Below W.heap.size W w') := Lib.hid (fun W hB hC => indexW_any (hW.later hB) hC hi hk1 hk2)
  have HSE : Hid (∀ W, Below w0.heap.size w0 W → Calls Tryz.prog 114 #[.slice ad 64 c] W (Says W.heap.size W true)) := Lib.hid (fun W hB => by
    have h := fSealed_any ad 64 c ys W (hA.later hB)
    rw [p2] at h
    exact h)
  have HRD : Hid (∀ W, Below w0.heap.size w0 W → Calls Tryz.prog 264 #[.slice ad (64 : Nat) c] W fun e w' => e = .returned (pageV pg) ∧ Below W.heap.size W w') := Lib.hid (fun W hB => by
    have h := trRead_any ad c ys W (hA.later hB)
    rw [p3] at h
    exact h)
  have hl30 : pg.length = 30 := by rw [← p3]; exact words_length _
  have HUS : Hid (∀ W, Calls Tryz.prog 248 #[pageV pg] W fun e w' => e = .returned (.bool true) ∧ Below W.heap.size W w') := Lib.hid (fun W => by
    have h := used_any pg W hl30
    rw [p4] at h
    exact h)
  have HCQ := Lib.hid hcq
  have HBW : Hid (b < w0.heap.size) := Lib.hid (World.block_lt_of_cell? _ _ d2)
  have HGE : Hid (w0.heap.size ≤ g) := Lib.hid hO.2.2.1
  have HO := Lib.hid hO
  have HD2 := Lib.hid d2
  have HLL := Lib.hid hL
  have HL30 := Lib.hid hl30
  have k1 : (k : Int) < (m : Int) := by omega
  have k0 : ¬ ((k : Int) < 0) := by omega
  have k2 : (0 : Int) ≤ (k : Int) := by omega
  clear hO hL hW hq h0 hf hp hk1 hk2 p1 p2 p3 p4 hks d2 hA hne hcq
  unfold pageV at HRD HUS
  go_enter Tryz.func223, Tryz.ntmps223
  go_wp2_with fail
  go_quiet (fail)
  obtain ⟨W1, hW1⟩ : ∃ W1, W1 = ((w.alloc (.cells #[.pointer (some ⟨g, 0, none⟩)] 231)).alloc (.cells #[.int .i64 (i : Int)] 3)).drewN nq := ⟨_, rfl⟩
  have HB1 : Hid (Below w.heap.size w W1) := Lib.hid (by rw [hW1]; exact below_drewN (HB.out _ _) _)
  have HCP : Hid (Caps W1 g w.heap.size (w.heap.size + 1) i q) := Lib.hid (by
    rw [hW1]
    have h := caps_made HCQ.out 231 3
    exact ⟨h.c1, h.c2, h.c3⟩)
  rw [← hW1]
  clear hW1 hc2
  have HB01 : Hid (Below w0.heap.size w0 W1) := Lib.hid (HO.out.2.2.2.trans (HB1.out.mono HO.out.2.2.2.size))
  go_wp2_with (first
    | (go_at_call 262; refine (HIX.out _ HB01.out HCP.out).mono ?_; rintro e w2 ⟨rfl, hb⟩; have HB2 := Lib.hid hb; have HB02 := Lib.hid (HB01.out.trans (hb.mono HB01.out.size)); have d3 := cell_later HB02.out HD2.out; clear hb)
    | (go_at_call 114; refine (HSE.out _ HB02.out).mono ?_; rintro e w3 ⟨rfl, hb⟩; have HB3 := Lib.hid hb; have HB03 := Lib.hid (HB02.out.trans (hb.mono HB02.out.size)); clear hb))
  have HB23 := Lib.hid (HB1.out.trans ((HB2.out.trans (HB3.out.mono HB2.out.size)).mono HB1.out.size))
  have HB13 := Lib.hid (HB2.out.trans (HB3.out.mono HB2.out.size))
  have HO3 : Hid (OwnV w0.heap.size w0 g (ints L) w3) := Lib.hid (HO.out.later HB23.out (by intro h; have := congrArg List.length h; rw [ints_length, HLL.out] at this; simp at this))
  have HTH : Hid (∀ W, Below w3.heap.size w3 W → W.there g (4 + i * 30) 30) := Lib.hid (fun W hW => there_later' hW (fun j hj => ⟨by
      rw [HO3.out.1 (4 + i * 30 + j) (.int .i64 (L.getD (4 + i * 30 + j) 0)) (ints_get (by rw [List.getD_eq_getElem?_getD, List.getElem?_eq_getElem (by rw [HLL.out]; omega)]; rfl))]; rfl, HO3.out.2.1 _⟩) (Nat.lt_of_lt_of_le hglt HB23.out.size))
  have HS3 : Hid (∀ W, Below w3.heap.size w3 W → W.cell? ⟨w.heap.size, 0, none⟩ = some (.pointer (some ⟨g, 0, none⟩)) ∧ W.cell? ⟨w.heap.size + 1, 0, none⟩ = some (.int .i64 (i : Int)) ∧ W.cell? ⟨b, off + k * 2 + 1, none⟩ = some (.slice ad 64 c)) := Lib.hid (fun W hW => by
    have h := HCP.out.later (HB13.out.trans (hW.mono HB13.out.size))
    exact ⟨h.c1, h.c2, cell_later (HB03.out.trans (hW.mono HB03.out.size)) HD2.out⟩)
  have iP := iPage HL30.out
  have hN30 : (ints pg).length = 30 := by rw [ints_length, HL30.out]
  have hOne := ints_one pg
  have HK : Hid (∀ W, Below w3.heap.size w3 W → W.cell? ⟨w.heap.size, 0, none⟩ = some (.pointer (some ⟨g, 0, none⟩)) ∧ W.cell? ⟨w.heap.size + 1, 0, none⟩ = some (.int .i64 (i : Int)) ∧ W.cell? ⟨b, off + k * 2 + 1, none⟩ = some (.slice ad 64 c) ∧ W.there g (4 + i * 30) 30) := Lib.hid (fun W hW => by
    obtain ⟨s1, s2, s3⟩ := HS3.out W hW
    exact ⟨s1, s2, s3, HTH.out W hW⟩)
  have HKS : Hid (∀ W vs, Below w3.heap.size w3 W → (W.setCells g (4 + i * 30) vs).cell? ⟨w.heap.size, 0, none⟩ = some (.pointer (some ⟨g, 0, none⟩)) ∧ (W.setCells g (4 + i * 30) vs).cell? ⟨w.heap.size + 1, 0, none⟩ = some (.int .i64 (i : Int)) ∧ (W.setCells g (4 + i * 30) vs).cell? ⟨b, off + k * 2 + 1, none⟩ = some (.slice ad 64 c) ∧ (W.setCells g (4 + i * 30) vs).there g (4 + i * 30) 30) := Lib.hid (fun W vs hW => by
    obtain ⟨s1, s2, s3, s4⟩ := HK.out W hW
    have kp := Keeps.sets g vs (4 + i * 30) W
    have h1 := HBW.out
    have h2 := HGE.out
    refine ⟨?_, ?_, ?_, World.there_setCells s4 _ _ _⟩
    · rw [kp.cell (p := ⟨w.heap.size, 0, none⟩) (by show w.heap.size ≠ g; omega)]; exact s1
    · rw [kp.cell (p := ⟨w.heap.size + 1, 0, none⟩) (by show w.heap.size + 1 ≠ g; omega)]; exact s2
    · rw [kp.cell (p := ⟨b, off + k * 2 + 1, none⟩) (by show b ≠ g; omega)]; exact s3)
  go_region_held3 (fun W => W.cell? ⟨w.heap.size, 0, none⟩ = some (.pointer (some ⟨g, 0, none⟩)) ∧ W.cell? ⟨w.heap.size + 1, 0, none⟩ = some (.int .i64 (i : Int)) ∧ W.cell? ⟨b, off + k * 2 + 1, none⟩ = some (.slice ad 64 c) ∧ W.there g (4 + i * 30) 30) (first | exact HK.out _ ((Below.refl _ _).drew) | exact HK.out _ ((Below.refl _ _).drew.trans HB5.out) | exact HKS.out _ _ ((Below.refl _ _).drew.trans HB5.out)) ((go_at_call 264; refine (HRD.out _ HB03.out.drew).mono ?_; rintro e w5 ⟨rfl, hb⟩; have HB5 : Hid (Below w3.drew.heap.size w3.drew w5) := Lib.hid hb; clear hb))
  have HB35 := Lib.hid ((Below.refl w3.heap.size w3).drew.trans HB5.out)
  have HO6 : Hid (OwnV w0.heap.size w0 g (ints (lay L (4 + i * 30) pg)) (w5.setCells g (4 + i * 30) (ints pg))) := Lib.hid ((HO3.out.later HB35.out (by intro h; have := congrArg List.length h; rw [ints_length, HLL.out] at this; simp at this)).fillI pg L (4 + i * 30) w5 (by rw [HLL.out, HL30.out]; omega))
  have HS6 := Lib.hid (HKS.out w5 (ints pg) HB35.out)
  have HR6 : Hid ((w5.setCells g (4 + i * 30) (ints pg)).rangeAt g (4 + i * 30) (ints pg)) := Lib.hid (World.rangeAt_setCells_same _ _ _ _ (by rw [hN30]; exact HTH.out _ HB35.out))
  obtain ⟨W6, hW6⟩ : ∃ W6, W6 = w5.setCells g (4 + i * 30) (ints pg) := ⟨_, rfl⟩
  rw [← hW6] at HO6 HS6 HR6 ⊢
  clear hW6
  have hu := uPage
  have HK6 : Hid (∀ W, Below W6.heap.size W6 W → W.cell? ⟨w.heap.size, 0, none⟩ = some (.pointer (some ⟨g, 0, none⟩)) ∧ W.cell? ⟨w.heap.size + 1, 0, none⟩ = some (.int .i64 (i : Int)) ∧ W.rangeAt g (4 + i * 30) (ints pg)) := Lib.hid (fun W hW => ⟨cell_later hW HS6.out.1, cell_later hW HS6.out.2.1, fun j v hj => cell_later hW (HR6.out j v hj)⟩)
  go_wp2_with fail
  go_region_held3 (fun W => W.cell? ⟨w.heap.size, 0, none⟩ = some (.pointer (some ⟨g, 0, none⟩)) ∧ W.cell? ⟨w.heap.size + 1, 0, none⟩ = some (.int .i64 (i : Int)) ∧ W.rangeAt g (4 + i * 30) (ints pg)) (first | exact HK6.out _ ((Below.refl _ _).drew) | exact HK6.out _ ((Below.refl _ _).drew.trans HB7.out)) ((go_at_call 248; refine (HUS.out _).mono ?_; rintro e w7 ⟨rfl, hb⟩; have HB7 : Hid (Below W6.drew.heap.size W6.drew w7) := Lib.hid hb; clear hb))
  go_wp2_with fail
  go_ret
  exact ⟨rfl, HO6.out.later ((Below.refl _ _).drew.trans HB7.out) (by intro h; have := congrArg List.length h; rw [ints_length, lay_length, HLL.out] at this; simp at this)⟩

end Go.Proofs.YtmcblhgpcgnaoaaGreatDoor


namespace Go.Proofs.YtmcblhgpcgnaoaaGreatDoor
open Go.RowKit
set_option linter.unusedVariables false
set_option linter.unusedSimpArgs false

set_option maxRecDepth 100000 in
set_option maxHeartbeats 1600000 in
theorem Index_any (ao : Option Addr) (len cap : Nat) (zs : List Int) (x : Int) (w : World) (hA : IArg w ao len cap zs) : Calls Tryz.prog 252 #[.slice ao len cap, .int .i64 x] w fun e w' => ∃ r : Int, e = .returned (.int .i64 r) ∧ decide (0 ≤ r) = decide (x ∈ zs) ∧ w = w' := by
  have HA := Lib.hid hA
  have HN := Lib.hid hA.len
  have hb := hA.big
  clear hA
  go_enter Tryz.func252, Tryz.ntmps252
  go_wp2_with fail
  go_loopw [8] (fun iv wr => ∃ i : Nat, iv = .int .i64 (i : Int) ∧ i ≤ len ∧ Hid (w = wr) ∧ Hid (x ∉ zs.take i)) (fun iv _ => len - (intOf iv).toNat)
  case atStart => exact ⟨0, rfl, Nat.zero_le _, Lib.hid rfl, Lib.hid (by simp)⟩
  case round =>
    obtain ⟨i, rfl, hi, HW, HQ⟩ := hrel
    by_cases hlt : i < len
    · obtain ⟨b, off, y, rfl, hy, hc, _⟩ := HA.out.at hlt
      have hc : wr.cell? ⟨b, off + i, none⟩ = some (.int .i64 y) := by rw [← HW.out]; exact hc
      have i1 : (i : Int) < (len : Int) := by omega
      have HY := Lib.hid hy
      clear hy
      by_cases he : x = y
      · have HM : Hid (x ∈ zs) := Lib.hid (by rw [he]; exact List.mem_of_getElem? HY.out)
        have b1 : (x == y) = true := by simpa using he
        clear he
        go_wp2_with fail
        go_ret
        exact ⟨(i : Int), rfl, by rw [decide_eq_true HM.out]; exact decide_eq_true (by omega), HW.out⟩
      · have HM : Hid (x ∉ zs.take (i + 1)) := Lib.hid (by
          rw [List.take_add_one, HY.out]
          intro h
          rcases List.mem_append.1 h with h | h
          · exact HQ.out h
          · exact he (by simpa using h))
        have b1 : (x == y) = false := by simpa using he
        clear he
        go_wp2_with fail
        go_roundw
        case rel => exact ⟨i + 1, by go_num, by omega, HW, HM⟩
        case measure => simp [intOf]; omega
    · obtain rfl : i = len := by omega
      have HM : Hid (x ∉ zs) := Lib.hid (by have := HQ.out; rwa [← HN.out, List.take_length] at this)
      go_wp2_with fail
      go_ret
      exact ⟨-1, rfl, by rw [decide_eq_false HM.out]; rfl, HW.out⟩

set_option maxHeartbeats 800000 in
theorem Contains_any (ao : Option Addr) (len cap : Nat) (zs : List Int) (x : Int) (w : World) (hA : IArg w ao len cap zs) : Calls Tryz.prog 204 #[.slice ao len cap, .int .i64 x] w fun e w' => e = .returned (.bool (decide (x ∈ zs))) ∧ w = w' := by
  have c := Index_any ao len cap zs x w hA
  clear hA
  go_enter Tryz.func204, Tryz.ntmps204
  go_wp2_with (go_at_call 252; refine c.mono ?_; rintro e w2 ⟨r, rfl, hr, rfl⟩; have HR := Lib.hid hr; clear hr)
  go_ret
  exact ⟨by rw [← HR.out]; rfl, rfl⟩

end Go.Proofs.YtmcblhgpcgnaoaaGreatDoor


namespace Go.Proofs.YtmcblhgpcgnaoaaGreatDoor
open Go.RowKit
set_option linter.unusedVariables false
set_option linter.unusedSimpArgs false

/-- A node of the old format, as its cells. -/
def nodeCs (f a b c d s t : Int) : List Value := [.int .i64 0, .int .i64 f, .int .i64 0, .int .i64 0, .int .i64 a, .int .i64 b, .int .i64 c, .int .i64 d, .int .i64 s, .int .i64 t, .slice none 0 0, .int .i64 0]
def nodeV (f a b c d s t : Int) : Value := .agg (nodeCs f a b c d s t).toArray
theorem uNode : ∃ fs, Tryz.prog.underlying 49 = some (.struct fs) := ⟨_, Tryz.underlying49⟩
theorem iNode (cs : List Value) (h : cs.length = 12) : (Tryz.prog.info? 49).map (·.size) = some cs.length := by rw [h]; kernel_rfl
theorem iNodeA (f a b c d s t : Int) : (Tryz.prog.info? 49).map (·.size) = some (nodeCs f a b c d s t).toArray.size := by
  have h := iNode (nodeCs f a b c d s t) rfl
  exact h
theorem node_one (f a b c d s t : Int) : ∀ v ∈ nodeCs f a b c d s t, v.oneCell' = true := by
  intro v hv
  unfold nodeCs at hv
  simp only [List.mem_cons, List.mem_nil_iff, or_false] at hv
  rcases hv with rfl | rfl | rfl | rfl | rfl | rfl | rfl | rfl | rfl | rfl | rfl | rfl <;> rfl

theorem results_cell_tt {fn : Func} {p x y : Tmp} {ty : TypeId} (h : fn.results = #[.cell p ty, .tmp x, .tmp y]) (tmps : Array Value) (P : Program) (w : World) {v : Value} {a : Addr} (ha : tmps.getD p undef = .pointer (some a)) (hr : (loadVar ty a).run P w = .ok v w) :
    (results fn tmps).run P w = .ok (.tuple #[v, tmps.getD x undef, tmps.getD y undef]) w := by
  have ha' : tmps[p]?.getD undef = .pointer (some a) := by simpa using ha
  simp only [results, h]
  simp [Sem.run_bind, Result.andThen, ha', asAddr, hr]

theorem run_load_node (w : World) (g : Nat) (f a b c d s t : Int) (h : w.rangeAt g 0 (nodeCs f a b c d s t)) : (loadVar 49 ⟨g, 0, none⟩).run Tryz.prog w = .ok (nodeV f a b c d s t) w := by
  obtain ⟨fs, hu⟩ := uNode
  exact run_loadVar_mid w g 0 49 (nodeCs f a b c d s t) _ h hu rfl (iNode _ rfl)

def zeroN : Array Value := (nodeCs 0 0 0 0 0 0 0).toArray

theorem made_node (w : World) : (w.alloc (.cells zeroN 49)).there w.heap.size 0 12 ∧ (w.alloc (.cells zeroN 49)).rangeAt w.heap.size 0 (nodeCs 0 0 0 0 0 0 0) := by
  constructor
  · intro j hj
    refine ⟨?_, by rw [World.frozen?_alloc_mark]; simp⟩
    rw [Nat.zero_add, World.cell?_alloc_new]
    unfold zeroN nodeCs
    simp [hj]
  · intro j v hj
    rw [Nat.zero_add, World.cell?_alloc_new]
    unfold zeroN
    simpa using hj

theorem there_laterT {w wx : World} {b o n : Nat} (hb : Below w.heap.size w wx) (h : w.there b o n) (hlt : b < w.heap.size) : wx.there b o n := fun j hj => by
  obtain ⟨h1, h2⟩ := h j hj
  obtain ⟨u, hu⟩ := Option.isSome_iff_exists.1 h1
  exact ⟨by rw [cell_later hb hu]; rfl, by rw [hb.frozen (p := ⟨b, o + j, none⟩) hlt]; exact h2⟩

/-! ### Fresh blocks -/

theorem freshErr_eq {zs fs : List Int} {n : Nat} (hn : n ≤ fs.length) : freshErr fs n zs = if decide ((0 : Int) ∈ fs.take n) = true then 1 else if apartL (zs ++ fs.take n) = true then 0 else 1 := by
  unfold freshErr
  rw [if_neg (by omega)]
  cases ha : apartL (zs ++ fs.take n) with
  | false => cases (fs.take n).all dataP <;> cases decide ((0 : Int) ∈ fs.take n) <;> rfl
  | true =>
    have key : (fs.take n).all dataP = !decide ((0 : Int) ∈ fs.take n) := by
      by_cases h0 : (0 : Int) ∈ fs.take n
      · rw [decide_eq_true h0, Bool.not_true, ← Bool.not_eq_true, List.all_eq_true]
        intro h
        have := h 0 h0
        unfold dataP at this
        simp at this
      · rw [decide_eq_false h0, Bool.not_false, List.all_eq_true]
        intro x hx
        have h2 := (apart_append ha).2
        unfold apartL at h2
        rw [Bool.and_eq_true, List.all_eq_true] at h2
        have := h2.1 x hx
        unfold okP at this
        unfold dataP
        simp only [decide_eq_true_eq] at this ⊢
        rcases this with h | h
        · rw [h] at hx; exact absurd hx h0
        · exact h
    rw [key]
    cases decide ((0 : Int) ∈ fs.take n) <;> rfl

theorem placeL_at {L fs : List Int} (hL : L.length = 159) : ∀ i k, k < i → i ≤ 5 → (placeL L fs i).getD (154 + k) 0 = if needsB L k = true then fs.getD (usedN L k) 0 else L.getD (154 + k) 0
  | i + 1, k, hk, hi => by
    have hpl := placeL_length L fs i
    have hnew : ∀ m, i ≤ m → ∀ j, j ≤ i → (placeL L fs j).getD (154 + m) 0 = L.getD (154 + m) 0 := by
      intro m hm j
      induction j with
      | zero => intro _; rfl
      | succ j ih =>
        intro hj
        unfold placeL
        split
        · rw [List.getD_eq_getElem?_getD, List.getElem?_set_ne (by omega), ← List.getD_eq_getElem?_getD]
          exact ih (by omega)
        · exact ih (by omega)
    show (if needsB L i = true then (placeL L fs i).set (154 + i) (fs.getD (usedN L i) 0) else placeL L fs i).getD (154 + k) 0 = _
    by_cases hik : k = i
    · subst hik
      by_cases hb : needsB L k = true
      · rw [if_pos hb, if_pos hb, List.getD_eq_getElem?_getD, List.getElem?_set_self (by omega)]
        rfl
      · rw [if_neg hb, if_neg hb]
        exact hnew k (Nat.le_refl _) k (Nat.le_refl _)
    · have ih := placeL_at (fs := fs) hL i k (by omega) (by omega)
      rw [← ih]
      split
      · rw [List.getD_eq_getElem?_getD, List.getElem?_set_ne (by omega), ← List.getD_eq_getElem?_getD]
      · rfl

/-- The numbers of the blocks of pointers, in a chart. -/
def ownP (zs fs : List Int) : List Int := [singleP zs fs, doubleP zs fs, under0 zs fs, under1 zs fs, under2 zs fs]

theorem place_own {zs fs : List Int} {k : Nat} (hk : k < 5) : (placeL (splitL zs) (fs.take (needP zs)) 5).getD (154 + k) 0 = (ownP zs fs).getD k 0 := by
  have h := placeL_at (fs := fs.take (needP zs)) (split_length zs) 5 k hk (Nat.le_refl _)
  have hu : needsB (splitL zs) k = true → (fs.take (needP zs)).getD (usedN (splitL zs) k) 0 = fs.getD (usedN (splitL zs) k) 0 := fun hb => by
    refine take_getD' _ _ _ ?_
    have h1 := usedN_succ (splitL zs) k
    have h2 := usedN_mono (splitL zs) (show k + 1 ≤ 5 by omega)
    rw [usedN_need] at h2
    rw [hb] at h1
    have : (true : Bool).toNat = 1 := rfl
    omega
  rw [h, split_zero (Or.inr (by omega))]
  have e : (if needsB (splitL zs) k = true then (fs.take (needP zs)).getD (usedN (splitL zs) k) 0 else 0) = whenB (needsB (splitL zs) k) (fs.getD (usedN (splitL zs) k) 0) := by
    unfold whenB
    split
    · next hb => exact hu hb
    · rfl
  rw [e]
  obtain ⟨h0, h1, h2, h3, h4⟩ := split_needs zs
  have u0 : usedN (splitL zs) 0 = 0 := rfl
  have u1 := usedN_succ (splitL zs) 0
  have u2 := usedN_succ (splitL zs) 1
  have u3 := usedN_succ (splitL zs) 2
  have u4 := usedN_succ (splitL zs) 3
  rw [h0, u0] at u1
  rw [h1, u1] at u2
  rw [h2, u2] at u3
  rw [h3, u3] at u4
  unfold ownP singleP doubleP under0 under1 under2
  match k, hk with
  | 0, _ => rw [h0, u0]; rfl
  | 1, _ => rw [h1, u1, Nat.zero_add]; rfl
  | 2, _ =>
    rw [h2, u2, Nat.zero_add]
    unfold doubleB underN
    cases someP zs 34 30 <;> cases someP zs 64 30 <;> cases someP zs 94 30 <;> rfl
  | 3, _ =>
    rw [h3, u3, Nat.zero_add]
    unfold doubleB underN
    cases someP zs 34 30 <;> cases someP zs 64 30 <;> cases someP zs 94 30 <;> rfl
  | 4, _ =>
    rw [h4, u4, Nat.zero_add]
    unfold doubleB underN
    cases someP zs 34 30 <;> cases someP zs 64 30 <;> cases someP zs 94 30 <;> rfl

def planL (zs fs : List Int) : List Int := placedL (splitL zs) (fs.take (needP zs))

theorem planL_length (zs fs : List Int) : (planL zs fs).length = 159 := by
  unfold planL placedL
  rw [lay_length, placeL_length, split_length]

theorem planL_get (zs fs : List Int) (j : Nat) : (planL zs fs).getD j 0 = if 34 ≤ j ∧ j < 37 then (ownP zs fs).getD (j - 32) 0 else (placeL (splitL zs) (fs.take (needP zs)) 5).getD j 0 := by
  unfold planL placedL
  have hl : (placeL (splitL zs) (fs.take (needP zs)) 5).length = 159 := by rw [placeL_length, split_length]
  have hc : (((placeL (splitL zs) (fs.take (needP zs)) 5).drop 156).take 3).length = 3 := by rw [List.length_take, List.length_drop, hl]; decide
  rw [lay_get _ _ _ _ (by omega), hc]
  by_cases h : 34 ≤ j ∧ j < 37
  · rw [if_pos h, if_pos h, take_getD' _ _ _ (by omega), drop_getD', show 156 + (j - 34) = 154 + (j - 32) by omega]
    exact place_own (by omega)
  · rw [if_neg h, if_neg h]

theorem planL_own {zs fs : List Int} {k : Nat} (hk : k < 5) : (planL zs fs).getD (154 + k) 0 = (ownP zs fs).getD k 0 := by
  rw [planL_get, if_neg (by omega)]
  exact place_own hk

theorem planL_low {zs fs : List Int} {j : Nat} (hj : j < 154) (h : ¬ (34 ≤ j ∧ j < 37)) : (planL zs fs).getD j 0 = (splitL zs).getD j 0 := by
  rw [planL_get, if_neg h, List.getD_eq_getElem?_getD, placeL_low _ _ 5 j hj, ← List.getD_eq_getElem?_getD]

theorem planL_page {zs fs : List Int} {i s : Nat} (h : i = 0 ∧ s = 4 ∨ i = 2 ∧ s = 34 ∨ i = 3 ∧ s = 64 ∨ i = 4 ∧ s = 94) : pageL (planL zs fs) i = partP zs s 30 := by
  rw [← split_page h]
  unfold pageL
  rw [part_of (by rw [planL_length]; omega), part_of (by rw [split_length]; omega)]
  apply List.map_congr_left
  intro k hk
  have hk' := List.mem_range.1 hk
  exact planL_low (by omega) (by omega)

theorem planL_double {zs fs : List Int} : pageL (planL zs fs) 1 = [under0 zs fs, under1 zs fs, under2 zs fs] ++ List.replicate 27 0 := by
  unfold pageL
  rw [part_of (by rw [planL_length]; omega)]
  apply List.ext_getElem?
  intro k
  by_cases hk : k < 30
  · rw [List.getElem?_map, List.getElem?_range hk]
    show some ((planL zs fs).getD (4 + 1 * 30 + k) 0) = _
    by_cases h3 : k < 3
    · rw [planL_get, if_pos (by omega), List.getElem?_append_left (by simpa using h3)]
      match k, h3 with
      | 0, _ => rfl
      | 1, _ => rfl
      | 2, _ => rfl
    · rw [planL_low (by omega) (by omega), split_zero (by omega), List.getElem?_append_right (by simp; omega), List.getElem?_replicate, if_pos (by simp; omega)]
  · rw [List.getElem?_eq_none (by simp; omega), List.getElem?_eq_none (by simp; omega)]

theorem flat_zeros : ∀ n : Nat, (List.replicate n (0 : Int)).flatMap (fun p => leB p 2) = List.replicate (2 * n) 0
  | 0 => rfl
  | n + 1 => by
    rw [List.replicate_succ, List.flatMap_cons, flat_zeros n, show 2 * (n + 1) = 2 + 2 * n by omega, ← List.replicate_append_replicate]
    rfl

/-- Zeros behind pointers make no other block. -/
theorem pageB_zeros {xs : List Int} {n : Nat} (h : xs.length + n ≤ 30) : pageB (xs ++ List.replicate n 0) = pageB xs := by
  have hl : (xs.flatMap fun p => leB p 2).length = 2 * xs.length := flat_len xs
  have e : ((xs ++ List.replicate n 0).flatMap fun p => leB p 2) = (xs.flatMap fun p => leB p 2) ++ List.replicate (2 * n) 0 := by rw [List.flatMap_append, flat_zeros]
  have e2 : ((xs.flatMap fun p => leB p 2) ++ List.replicate (2 * n) 0) ++ List.replicate (60 - ((xs.flatMap fun p => leB p 2) ++ List.replicate (2 * n) 0).length) 0 = (xs.flatMap fun p => leB p 2) ++ List.replicate (60 - (xs.flatMap fun p => leB p 2).length) 0 := by
    rw [List.append_assoc, List.replicate_append_replicate, List.length_append, hl, List.length_replicate, show 2 * n + (60 - (2 * xs.length + 2 * n)) = 60 - 2 * xs.length by omega]
  unfold pageB
  rw [e, seal_short (by rw [List.length_append, hl, List.length_replicate]; omega), seal_short (by omega), e2]

/-- The blocks that are planned. -/
theorem plan_blocks {zs fs : List Int} (hz : ∀ i, i < needP zs → nzB (fs.getD i 0) = true) : blocksL (planL zs fs) 5 = writesP zs fs := by
  rw [blocksL_succ, blocksL_succ, blocksL_succ, blocksL_succ, blocksL_succ]
  have o0 := planL_own (zs := zs) (fs := fs) (show 0 < 5 by decide)
  have o1 := planL_own (zs := zs) (fs := fs) (show 1 < 5 by decide)
  have o2 := planL_own (zs := zs) (fs := fs) (show 2 < 5 by decide)
  have o3 := planL_own (zs := zs) (fs := fs) (show 3 < 5 by decide)
  have o4 := planL_own (zs := zs) (fs := fs) (show 4 < 5 by decide)
  rw [o0, o1, o2, o3, o4, planL_page (i := 0) (s := 4) (by omega), planL_page (i := 2) (s := 34) (by omega), planL_page (i := 3) (s := 64) (by omega), planL_page (i := 4) (s := 94) (by omega), planL_double, pageB_zeros (by simp)]
  show [] ++ (if singleP zs fs = 0 then [] else [(singleP zs fs, _)]) ++ (if doubleP zs fs = 0 then [] else [(doubleP zs fs, _)]) ++ (if under0 zs fs = 0 then [] else [(under0 zs fs, _)]) ++ (if under1 zs fs = 0 then [] else [(under1 zs fs, _)]) ++ (if under2 zs fs = 0 then [] else [(under2 zs fs, _)]) = _
  unfold writesP
  have W : ∀ (b : Bool) (p : Int) (xs : List Int), (b = true → p ≠ 0) → (if whenB b p = 0 then [] else [(whenB b p, pageB xs)]) = whenW b (whenB b p) xs := fun b p xs h => by
    cases b with
    | false => rfl
    | true => exact if_neg (h rfl)
  have nz : ∀ i, i < needP zs → fs.getD i 0 ≠ 0 := fun i hi => by have := hz i hi; unfold nzB at this; simpa using this
  have hneed : needP zs = (someP zs 4 30).toNat + (doubleB zs).toNat + (someP zs 34 30).toNat + (someP zs 64 30).toNat + (someP zs 94 30).toNat := by
    unfold needP doubleB underN
    cases someP zs 4 30 <;> cases someP zs 34 30 <;> cases someP zs 64 30 <;> cases someP zs 94 30 <;> rfl
  have hd : someP zs 34 30 = true ∨ someP zs 64 30 = true ∨ someP zs 94 30 = true → (doubleB zs).toNat = 1 := by
    unfold doubleB underN
    cases someP zs 34 30 <;> cases someP zs 64 30 <;> cases someP zs 94 30 <;> simp
  have t1 : (true : Bool).toNat = 1 := rfl
  have e0 := W (someP zs 4 30) (fs.getD 0 0) (partP zs 4 30) (fun h => nz 0 (by rw [hneed, h]; omega))
  have e1 := W (doubleB zs) (fs.getD (someP zs 4 30).toNat 0) [under0 zs fs, under1 zs fs, under2 zs fs] (fun h => nz _ (by rw [hneed, h]; omega))
  have e2 := W (someP zs 34 30) (fs.getD ((someP zs 4 30).toNat + 1) 0) (partP zs 34 30) (fun h => nz _ (by have := hd (Or.inl h); rw [hneed, h]; omega))
  have e3 := W (someP zs 64 30) (fs.getD ((someP zs 4 30).toNat + 1 + (someP zs 34 30).toNat) 0) (partP zs 64 30) (fun h => nz _ (by have := hd (Or.inr (Or.inl h)); rw [hneed, h]; omega))
  have e4 := W (someP zs 94 30) (fs.getD ((someP zs 4 30).toNat + 1 + (someP zs 34 30).toNat + (someP zs 64 30).toNat) 0) (partP zs 94 30) (fun h => nz _ (by have := hd (Or.inr (Or.inr h)); rw [hneed, h]; omega))
  unfold singleP doubleP under0 under1 under2 at *
  rw [e0, e1, e2, e3, e4]
  simp only [List.nil_append, List.append_assoc]

end Go.Proofs.YtmcblhgpcgnaoaaGreatDoor


namespace Go.Proofs.YtmcblhgpcgnaoaaGreatDoor
open Go.RowKit
set_option linter.unusedVariables false
set_option linter.unusedSimpArgs false

theorem lay_zeros {L : List Int} {o n : Nat} (h : (L.drop o).take n = List.replicate n 0) (hl : o + n ≤ L.length) : lay L o (List.replicate n 0) = L := by
  rw [← h, lay_eq _ _ _ (by rw [List.length_take]; omega), List.length_take, List.length_drop, show min n (L.length - o) = n by omega, List.append_assoc, ← List.drop_drop, List.take_append_drop, List.take_append_drop]

theorem ints_ne {L : List Int} (h : L.length = 159) : ints L ≠ [] := by
  intro e
  have := congrArg List.length e
  rw [ints_length, h] at this
  simp at this

theorem getD_cell {base g j : Nat} {w0 w : World} {L : List Int} (hO : OwnV base w0 g (ints L) w) (hj : j < L.length) : w.cell? ⟨g, j, none⟩ = some (.int .i64 (L.getD j 0)) :=
  hO.1 j _ (ints_get (by rw [List.getD_eq_getElem?_getD, List.getElem?_eq_getElem hj]; rfl))

theorem fetch_any {w0 w : World} {g i : Nat} {L : List Int} {ao : Option Addr} {m cap : Nat} {ws : List (Int × List Int)} {pg : List Int} (hO : OwnV w0.heap.size w0 g (ints L) w) (hL : L.length = 159) (hW : WIs w0 ao m ws) (hi : i < 5) (hp : pageAt ws (L.getD (154 + i) 0) = some pg) (hz : pageL L i = List.replicate 30 0) :
    Calls Tryz.prog 223 #[.pointer (some ⟨g, 0, none⟩), .int .i64 (i : Int), .slice ao m cap] w fun e w' => e = .returned (.bool true) ∧ OwnV w0.heap.size w0 g (ints (lay L (4 + i * 30) pg)) w' := by
  unfold pageAt at hp
  by_cases h0 : L.getD (154 + i) 0 = 0
  · rw [if_pos h0] at hp
    cases hp
    have hc := getD_cell hO (j := 154 + i) (by omega)
    rw [h0] at hc
    rw [lay_zeros hz (by omega)]
    exact (fetch0_any hc hi).mono (fun e w' h => ⟨h.1, hO.later h.2 (ints_ne hL)⟩)
  · rw [if_neg h0] at hp
    cases hf : findW ws (L.getD (154 + i) 0) with
    | none => rw [hf] at hp; cases hp
    | some zs =>
      rw [hf] at hp
      exact fetchP_any hO hL hW hi rfl h0 hf hp

theorem made_ints (w : World) (L : List Int) (T : TypeId) : OwnV w.heap.size w w.heap.size (ints L) (w.alloc (.cells (ints L).toArray T)) := by
  refine ⟨fun j x hj => ?_, fun j => by rw [World.frozen?_alloc_mark]; simp, Nat.le_refl _, (Below.refl _ _).alloc (Nat.le_refl _) _⟩
  rw [World.cell?_alloc_new]
  simpa using hj

/-! ### The chart, step by step -/

def gat0 (d : List Int) (s t : Int) : List Int := ((d ++ List.replicate 155 0).set 154 s).set 155 t

theorem getD_set' {L : List Int} {i j : Nat} {x : Int} (hi : i < L.length) : (L.set i x).getD j 0 = if i = j then x else L.getD j 0 := by
  rw [List.getD_eq_getElem?_getD, List.getElem?_set]
  by_cases e : i = j
  · rw [if_pos e, if_pos e, if_pos hi]; rfl
  · rw [if_neg e, if_neg e, List.getD_eq_getElem?_getD]

theorem gat0_get {d : List Int} (hd : d.length = 4) (s t : Int) (j : Nat) : (gat0 d s t).getD j 0 = if j < 4 then d.getD j 0 else if j = 154 then s else if j = 155 then t else 0 := by
  unfold gat0
  have hl : (d ++ List.replicate 155 (0 : Int)).length = 159 := by rw [List.length_append, hd, List.length_replicate]
  rw [getD_set' (by rw [List.length_set]; omega), getD_set' (by omega)]
  by_cases h1 : j < 4
  · rw [if_neg (by omega), if_neg (by omega), if_pos h1, List.getD_eq_getElem?_getD, List.getElem?_append_left (by omega), ← List.getD_eq_getElem?_getD]
  · rw [if_neg h1]
    by_cases h2 : j = 154
    · rw [if_neg (by omega), if_pos (by omega), if_pos h2]
    · by_cases h3 : j = 155
      · rw [if_pos (by omega), if_neg h2, if_pos h3]
      · rw [if_neg (by omega), if_neg (by omega), if_neg h2, if_neg h3, List.getD_eq_getElem?_getD, List.getElem?_append_right (by omega), List.getElem?_replicate]
        split <;> rfl

theorem gat0_length {d : List Int} (hd : d.length = 4) (s t : Int) : (gat0 d s t).length = 159 := by
  unfold gat0
  rw [List.length_set, List.length_set, List.length_append, hd, List.length_replicate]

theorem lay_got {L cs : List Int} {o n : Nat} (hc : cs.length = n) (hf : o + n ≤ L.length) (j : Nat) : (lay L o cs).getD j 0 = if o ≤ j ∧ j < o + n then cs.getD (j - o) 0 else L.getD j 0 := by
  rw [lay_get _ _ _ _ (by omega), hc]

theorem page_zero {L : List Int} {i : Nat} (hL : L.length = 159) (hi : i < 5) (h : ∀ j, 4 + i * 30 ≤ j → j < 34 + i * 30 → L.getD j 0 = 0) : pageL L i = List.replicate 30 0 := by
  unfold pageL
  rw [part_of (by omega), List.eq_replicate_iff]
  refine ⟨by simp, fun x hx => ?_⟩
  obtain ⟨k, hk, rfl⟩ := List.mem_map.1 hx
  have := List.mem_range.1 hk
  exact h _ (by omega) (by omega)

theorem part_is {L cs : List Int} {o n : Nat} (hc : cs.length = n) (hL : o + n ≤ L.length) (h : ∀ k, k < n → L.getD (o + k) 0 = cs.getD k 0) : (L.drop o).take n = cs := by
  rw [part_of hL]
  apply List.ext_getElem?
  intro k
  by_cases hk : k < n
  · rw [List.getElem?_map, List.getElem?_range hk, List.getElem?_eq_getElem (show k < cs.length by omega)]
    show some (L.getD (o + k) 0) = _
    rw [h k hk, List.getD_eq_getElem?_getD, List.getElem?_eq_getElem (show k < cs.length by omega)]
    rfl
  · rw [List.getElem?_eq_none (by simp; omega), List.getElem?_eq_none (by omega)]

/-- A chart with these pages, and these numbers of their blocks. -/
structure Full (M d sg u0 u1 u2 o : List Int) : Prop where
  len : M.length = 159
  dir : M.take 4 = d
  p0 : pageL M 0 = sg
  p2 : pageL M 2 = u0
  p3 : pageL M 3 = u1
  p4 : pageL M 4 = u2
  own : (M.drop 154).take 5 = o
  i64 : ∀ z ∈ M, I64 z

theorem pageAt_ok {ws : List (Int × List Int)} {q : Int} {pg : List Int} (h : pageAt ws q = some pg) : pg.length = 30 ∧ ∀ z ∈ pg, 0 ≤ z ∧ z ≤ 479 := by
  unfold pageAt at h
  by_cases h0 : q = 0
  · rw [if_pos h0] at h
    cases h
    exact ⟨by simp, fun z hz => by rw [List.eq_of_mem_replicate hz]; decide⟩
  · rw [if_neg h0] at h
    cases hf : findW ws q with
    | none => rw [hf] at h; cases h
    | some zs =>
      rw [hf] at h
      obtain ⟨_, _, p3, _, p5⟩ := page_parts h
      refine ⟨by rw [← p3]; exact words_length _, fun z hz => ?_⟩
      unfold apartL at p5
      rw [Bool.and_eq_true, List.all_eq_true] at p5
      have := p5.1 z hz
      unfold okP at this
      simp only [decide_eq_true_eq] at this
      omega

theorem mem_lay {L cs : List Int} {o : Nat} (hf : o + cs.length ≤ L.length) {z : Int} (hz : z ∈ lay L o cs) : z ∈ L ∨ z ∈ cs := by
  rw [lay_eq _ _ _ hf] at hz
  rcases List.mem_append.1 hz with h | h
  · rcases List.mem_append.1 h with h | h
    · exact Or.inl (List.mem_of_mem_take h)
    · exact Or.inr h
  · exact Or.inl (List.mem_of_mem_drop h)

/-- The charts on the way. -/
structure Way (L0 L1 L2 L3 L4 L5 L6 d sg db u0 u1 u2 : List Int) (s t : Int) : Prop where
  e0 : L0 = gat0 d s t
  e1 : L1 = lay L0 4 sg
  e2 : L2 = lay L1 34 db
  e3 : L3 = lay L2 156 (db.take 3)
  e4 : L4 = lay L3 64 u0
  e5 : L5 = lay L4 94 u1
  e6 : L6 = lay L5 124 u2
  hd : d.length = 4
  hs : sg.length = 30
  hb : db.length = 30
  h0 : u0.length = 30
  h1 : u1.length = 30
  h2 : u2.length = 30

section
variable {L0 L1 L2 L3 L4 L5 L6 d sg db u0 u1 u2 : List Int} {s t : Int}

theorem Way.lens (w : Way L0 L1 L2 L3 L4 L5 L6 d sg db u0 u1 u2 s t) : L0.length = 159 ∧ L1.length = 159 ∧ L2.length = 159 ∧ L3.length = 159 ∧ L4.length = 159 ∧ L5.length = 159 ∧ L6.length = 159 := by
  have h0 : L0.length = 159 := by rw [w.e0]; exact gat0_length w.hd s t
  have h1 : L1.length = 159 := by rw [w.e1, lay_length, h0]
  have h2 : L2.length = 159 := by rw [w.e2, lay_length, h1]
  have h3 : L3.length = 159 := by rw [w.e3, lay_length, h2]
  have h4 : L4.length = 159 := by rw [w.e4, lay_length, h3]
  have h5 : L5.length = 159 := by rw [w.e5, lay_length, h4]
  exact ⟨h0, h1, h2, h3, h4, h5, by rw [w.e6, lay_length, h5]⟩

theorem Way.gets (w : Way L0 L1 L2 L3 L4 L5 L6 d sg db u0 u1 u2 s t) (j : Nat) :
    (L0.getD j 0 = if j < 4 then d.getD j 0 else if j = 154 then s else if j = 155 then t else 0) ∧ (L1.getD j 0 = if 4 ≤ j ∧ j < 34 then sg.getD (j - 4) 0 else L0.getD j 0) ∧ (L2.getD j 0 = if 34 ≤ j ∧ j < 64 then db.getD (j - 34) 0 else L1.getD j 0) ∧
    (L3.getD j 0 = if 156 ≤ j ∧ j < 159 then (db.take 3).getD (j - 156) 0 else L2.getD j 0) ∧ (L4.getD j 0 = if 64 ≤ j ∧ j < 94 then u0.getD (j - 64) 0 else L3.getD j 0) ∧ (L5.getD j 0 = if 94 ≤ j ∧ j < 124 then u1.getD (j - 94) 0 else L4.getD j 0) ∧ (L6.getD j 0 = if 124 ≤ j ∧ j < 154 then u2.getD (j - 124) 0 else L5.getD j 0) := by
  obtain ⟨l0, l1, l2, l3, l4, l5, l6⟩ := w.lens
  have hb3 : (db.take 3).length = 3 := by rw [List.length_take, w.hb]; decide
  refine ⟨by rw [w.e0]; exact gat0_get w.hd s t j, by rw [w.e1]; exact lay_got w.hs (by omega) j, by rw [w.e2]; exact lay_got w.hb (by omega) j, by rw [w.e3]; exact lay_got hb3 (by omega) j, by rw [w.e4]; exact lay_got w.h0 (by omega) j, by rw [w.e5]; exact lay_got w.h1 (by omega) j, by rw [w.e6]; exact lay_got w.h2 (by omega) j⟩

theorem Way.full (w : Way L0 L1 L2 L3 L4 L5 L6 d sg db u0 u1 u2 s t) {q0 q1 q2 : Int} (hq : db.take 3 = [q0, q1, q2]) (hi : (∀ z ∈ d, I64 z) ∧ I64 s ∧ I64 t ∧ (∀ z ∈ sg, I64 z) ∧ (∀ z ∈ db, I64 z) ∧ (∀ z ∈ u0, I64 z) ∧ (∀ z ∈ u1, I64 z) ∧ ∀ z ∈ u2, I64 z) : Full L6 d sg u0 u1 u2 [s, t, q0, q1, q2] := by
  obtain ⟨l0, l1, l2, l3, l4, l5, l6⟩ := w.lens
  have hb3 : (db.take 3).length = 3 := by rw [hq]; rfl
  refine ⟨l6, ?_, ?_, ?_, ?_, ?_, ?_, ?_⟩
  · have := part_is (L := L6) (cs := d) (o := 0) (n := 4) w.hd (by omega) (fun k hk => by
      obtain ⟨g0, g1, g2, g3, g4, g5, g6⟩ := w.gets (0 + k)
      rw [g6, if_neg (by omega), g5, if_neg (by omega), g4, if_neg (by omega), g3, if_neg (by omega), g2, if_neg (by omega), g1, if_neg (by omega), g0, if_pos (by omega), Nat.zero_add])
    rwa [List.drop_zero] at this
  · exact part_is w.hs (by omega) (fun k hk => by
      obtain ⟨g0, g1, g2, g3, g4, g5, g6⟩ := w.gets (4 + 0 * 30 + k)
      rw [g6, if_neg (by omega), g5, if_neg (by omega), g4, if_neg (by omega), g3, if_neg (by omega), g2, if_neg (by omega), g1, if_pos (by omega)]
      exact congrArg (fun k => sg.getD k 0) (by omega))
  · exact part_is w.h0 (by omega) (fun k hk => by
      obtain ⟨g0, g1, g2, g3, g4, g5, g6⟩ := w.gets (4 + 2 * 30 + k)
      rw [g6, if_neg (by omega), g5, if_neg (by omega), g4, if_pos (by omega)]
      exact congrArg (fun k => u0.getD k 0) (by omega))
  · exact part_is w.h1 (by omega) (fun k hk => by
      obtain ⟨g0, g1, g2, g3, g4, g5, g6⟩ := w.gets (4 + 3 * 30 + k)
      rw [g6, if_neg (by omega), g5, if_pos (by omega)]
      exact congrArg (fun k => u1.getD k 0) (by omega))
  · exact part_is w.h2 (by omega) (fun k hk => by
      obtain ⟨g0, g1, g2, g3, g4, g5, g6⟩ := w.gets (4 + 4 * 30 + k)
      rw [g6, if_pos (by omega)]
      exact congrArg (fun k => u2.getD k 0) (by omega))
  · refine part_is rfl (by omega) (fun k hk => ?_)
    obtain ⟨g0, g1, g2, g3, g4, g5, g6⟩ := w.gets (154 + k)
    rw [g6, if_neg (by omega), g5, if_neg (by omega), g4, if_neg (by omega)]
    match k, hk with
    | 0, _ => rw [g3, if_neg (by omega), g2, if_neg (by omega), g1, if_neg (by omega), g0]; rfl
    | 1, _ => rw [g3, if_neg (by omega), g2, if_neg (by omega), g1, if_neg (by omega), g0]; rfl
    | 2, _ => rw [g3, if_pos (by omega), hq]; rfl
    | 3, _ => rw [g3, if_pos (by omega), hq]; rfl
    | 4, _ => rw [g3, if_pos (by omega), hq]; rfl
  · obtain ⟨hdI, hsI, htI, hsg, hdb, hu0, hu1, hu2⟩ := hi
    have hz : I64 0 := ⟨by decide, by decide⟩
    have i0 : ∀ z ∈ L0, I64 z := fun z hz' => by
      rw [w.e0] at hz'
      unfold gat0 at hz'
      rcases List.mem_or_eq_of_mem_set hz' with h | h
      · rcases List.mem_or_eq_of_mem_set h with h | h
        · rcases List.mem_append.1 h with h | h
          · exact hdI z h
          · rw [List.eq_of_mem_replicate h]; exact hz
        · rw [h]; exact hsI
      · rw [h]; exact htI
    have i1 : ∀ z ∈ L1, I64 z := fun z h => by rw [w.e1] at h; exact (mem_lay (by rw [w.hs]; omega) h).elim (i0 z) (hsg z)
    have i2 : ∀ z ∈ L2, I64 z := fun z h => by rw [w.e2] at h; exact (mem_lay (by rw [w.hb]; omega) h).elim (i1 z) (hdb z)
    have i3 : ∀ z ∈ L3, I64 z := fun z h => by rw [w.e3] at h; exact (mem_lay (by omega) h).elim (i2 z) (fun h => hdb z (List.mem_of_mem_take h))
    have i4 : ∀ z ∈ L4, I64 z := fun z h => by rw [w.e4] at h; exact (mem_lay (by rw [w.h0]; omega) h).elim (i3 z) (hu0 z)
    have i5 : ∀ z ∈ L5, I64 z := fun z h => by rw [w.e5] at h; exact (mem_lay (by rw [w.h1]; omega) h).elim (i4 z) (hu1 z)
    exact fun z h => by rw [w.e6] at h; exact (mem_lay (by rw [w.h2]; omega) h).elim (i5 z) (hu2 z)

/-- What each fetch finds, and where. -/
theorem Way.finds (w : Way L0 L1 L2 L3 L4 L5 L6 d sg db u0 u1 u2 s t) {q0 q1 q2 : Int} (hq : db.take 3 = [q0, q1, q2]) :
    (L0.getD (154 + 0) 0 = s ∧ pageL L0 0 = List.replicate 30 0) ∧ (L1.getD (154 + 1) 0 = t ∧ pageL L1 1 = List.replicate 30 0) ∧ (L3.getD (154 + 2) 0 = q0 ∧ pageL L3 2 = List.replicate 30 0) ∧ (L4.getD (154 + 3) 0 = q1 ∧ pageL L4 3 = List.replicate 30 0) ∧ (L5.getD (154 + 4) 0 = q2 ∧ pageL L5 4 = List.replicate 30 0) ∧ pageL L2 1 = db := by
  obtain ⟨l0, l1, l2, l3, l4, l5, l6⟩ := w.lens
  refine ⟨⟨?_, ?_⟩, ⟨?_, ?_⟩, ⟨?_, ?_⟩, ⟨?_, ?_⟩, ⟨?_, ?_⟩, ?_⟩
  · obtain ⟨g0, g1, g2, g3, g4, g5, g6⟩ := w.gets (154 + 0)
    rw [g0]; rfl
  · exact page_zero l0 (by decide) (fun j h1 h2 => by rw [(w.gets j).1, if_neg (by omega), if_neg (by omega), if_neg (by omega)])
  · obtain ⟨g0, g1, g2, g3, g4, g5, g6⟩ := w.gets (154 + 1)
    rw [g1, if_neg (by omega), g0]; rfl
  · exact page_zero l1 (by decide) (fun j h1 h2 => by
      obtain ⟨g0, g1, g2, g3, g4, g5, g6⟩ := w.gets j
      rw [g1, if_neg (by omega), g0, if_neg (by omega), if_neg (by omega), if_neg (by omega)])
  · obtain ⟨g0, g1, g2, g3, g4, g5, g6⟩ := w.gets (154 + 2)
    rw [g3, if_pos (by omega), hq]; rfl
  · exact page_zero l3 (by decide) (fun j h1 h2 => by
      obtain ⟨g0, g1, g2, g3, g4, g5, g6⟩ := w.gets j
      rw [g3, if_neg (by omega), g2, if_neg (by omega), g1, if_neg (by omega), g0, if_neg (by omega), if_neg (by omega), if_neg (by omega)])
  · obtain ⟨g0, g1, g2, g3, g4, g5, g6⟩ := w.gets (154 + 3)
    rw [g4, if_neg (by omega), g3, if_pos (by omega), hq]; rfl
  · exact page_zero l4 (by decide) (fun j h1 h2 => by
      obtain ⟨g0, g1, g2, g3, g4, g5, g6⟩ := w.gets j
      rw [g4, if_neg (by omega), g3, if_neg (by omega), g2, if_neg (by omega), g1, if_neg (by omega), g0, if_neg (by omega), if_neg (by omega), if_neg (by omega)])
  · obtain ⟨g0, g1, g2, g3, g4, g5, g6⟩ := w.gets (154 + 4)
    rw [g5, if_neg (by omega), g4, if_neg (by omega), g3, if_pos (by omega), hq]; rfl
  · exact page_zero l5 (by decide) (fun j h1 h2 => by
      obtain ⟨g0, g1, g2, g3, g4, g5, g6⟩ := w.gets j
      rw [g5, if_neg (by omega), g4, if_neg (by omega), g3, if_neg (by omega), g2, if_neg (by omega), g1, if_neg (by omega), g0, if_neg (by omega), if_neg (by omega), if_neg (by omega)])
  · exact part_is w.hb (by omega) (fun k hk => by
      obtain ⟨g0, g1, g2, g3, g4, g5, g6⟩ := w.gets (4 + 1 * 30 + k)
      rw [g2, if_pos (by omega)]
      exact congrArg (fun k => db.getD k 0) (by omega))
end

/-- A node, as its cells. -/
def nodeGs (k l z e : Int) (xo : Option Addr) (xm xc : Nat) (f a b c d s t : Int) : List Value := [.int .i64 k, .int .i64 f, .int .i64 l, .int .i64 z, .int .i64 a, .int .i64 b, .int .i64 c, .int .i64 d, .int .i64 s, .int .i64 t, .slice xo xm xc, .int .i64 e]
def nodeG (k l z e : Int) (xo : Option Addr) (xm xc : Nat) (f a b c d s t : Int) : Value := .agg (nodeGs k l z e xo xm xc f a b c d s t).toArray

set_option maxRecDepth 100000 in
set_option maxHeartbeats 6400000 in
theorem gather_any {nk nl nz ne : Int} {no : Option Addr} {nm nc : Nat} {w : World} {ao : Option Addr} {m cap : Nat} {ws : List (Int × List Int)} {x0 x1 x2 x3 s t q0 q1 q2 : Int} {sg u0 u1 u2 : List Int} (hW : WIs w ao m ws)
    (h1 : pageAt ws s = some sg) (h2 : pageAt ws t = some ([q0, q1, q2] ++ List.replicate 27 0)) (h3 : pageAt ws q0 = some u0) (h4 : pageAt ws q1 = some u1) (h5 : pageAt ws q2 = some u2) (hI : (∀ z ∈ [x0, x1, x2, x3], I64 z) ∧ I64 s ∧ I64 t) :
    Calls Tryz.prog 172 #[nodeG nk nl nz ne no nm nc 1 x0 x1 x2 x3 s t, .slice ao m cap] w fun e w' => ∃ g M, e = .returned (.tuple #[.pointer (some ⟨g, 0, none⟩), .bool true]) ∧ OwnV w.heap.size w g (ints M) w' ∧ Full M [x0, x1, x2, x3] sg u0 u1 u2 [s, t, q0, q1, q2] := by
  unfold nodeG nodeGs
  go_enter Tryz.func172, Tryz.ntmps172
  go_wp2_with fail
  obtain ⟨W2, hW2⟩ : ∃ W2, W2 = ((w.alloc (.cells (nodeGs nk nl nz ne no nm nc 1 x0 x1 x2 x3 s t).toArray 49)).alloc (.cells (ints ([x0, x1, x2, x3] ++ List.replicate 155 0)).toArray 274)) := ⟨_, rfl⟩
  have HB2 : Hid (Below w.heap.size w W2) := Lib.hid (by rw [hW2]; exact ((Below.refl _ _).alloc (Nat.le_refl _) _).alloc (by simp) _)
  have HO2 : Hid (OwnV w.heap.size w (w.heap.size + 1) (ints ([x0, x1, x2, x3] ++ List.replicate 155 0)) W2) := Lib.hid (by
    rw [hW2]
    have h := made_ints (w.alloc (.cells (nodeGs nk nl nz ne no nm nc 1 x0 x1 x2 x3 s t).toArray 49)) ([x0, x1, x2, x3] ++ List.replicate 155 0) 274
    rw [World.size_alloc] at h
    exact ⟨h.1, h.2.1, Nat.le_succ _, ((Below.refl _ _).alloc (Nat.le_refl _) _).alloc (by simp) _⟩)
  have HN2 : Hid (W2.rangeAt w.heap.size 0 (nodeGs nk nl nz ne no nm nc 1 x0 x1 x2 x3 s t)) := Lib.hid (by
    rw [hW2]
    intro j v hj
    rw [Nat.zero_add]
    refine cell_later ((Below.refl _ _).alloc (Nat.le_refl _) _) ?_
    rw [World.cell?_alloc_new]
    simpa using hj)
  have c8 : W2.cell? ⟨w.heap.size, 8, none⟩ = some (.int .i64 s) := by have := HN2.out 8 _ rfl; simpa using this
  have c9 : W2.cell? ⟨w.heap.size, 9, none⟩ = some (.int .i64 t) := by have := HN2.out 9 _ rfl; simpa using this
  have ca := getD_cell HO2.out (j := 154) (by simp)
  have cb := getD_cell HO2.out (j := 155) (by simp)
  have fa := HO2.out.2.1 154
  have fb := HO2.out.2.1 155
  change Code.wp _ _ _ _ ((w.alloc (.cells (nodeGs nk nl nz ne no nm nc 1 x0 x1 x2 x3 s t).toArray 49)).alloc (.cells (ints ([x0, x1, x2, x3] ++ List.replicate 155 0)).toArray 274))
  rw [← hW2]
  clear hW2
  go_region
  obtain ⟨W3, hW3⟩ : ∃ W3, W3 = ((W2.setCell ⟨w.heap.size + 1, 154, none⟩ (.int .i64 s)).setCell ⟨w.heap.size + 1, 155, none⟩ (.int .i64 t)).drew := ⟨_, rfl⟩
  have HO3 : Hid (OwnV w.heap.size w (w.heap.size + 1) (ints (gat0 [x0, x1, x2, x3] s t)) W3) := Lib.hid (by
    rw [hW3]
    unfold gat0
    rw [ints_set, ints_set]
    exact ((HO2.out.store (by simp [ints])).store (by simp [ints])).drew)
  rw [← hW3]
  clear hW3 c8 c9 ca cb fa fb
  obtain ⟨db, hdb⟩ : ∃ db, [q0, q1, q2] ++ List.replicate 27 0 = db := ⟨_, rfl⟩
  have hq3 : db.take 3 = [q0, q1, q2] := by rw [← hdb]; rfl
  have htl : (trimL db).length ≤ 3 := by
    rw [← hdb, trim_append_zeros]
    obtain ⟨n, hn⟩ := trim_prefix [q0, q1, q2]
    have := congrArg List.length hn
    rw [List.length_append, List.length_replicate] at this
    have h3 : ([q0, q1, q2] : List Int).length = 3 := rfl
    omega
  rw [hdb] at h2
  clear hdb
  obtain ⟨ks, is⟩ := pageAt_ok h1
  obtain ⟨kb, ib⟩ := pageAt_ok h2
  obtain ⟨k0, i0⟩ := pageAt_ok h3
  obtain ⟨k1, i1⟩ := pageAt_ok h4
  obtain ⟨k2, i2⟩ := pageAt_ok h5
  have sm : ∀ z : Int, 0 ≤ z ∧ z ≤ 479 → I64 z := fun z h => ⟨by omega, by omega⟩
  obtain ⟨L0, e0⟩ : ∃ L0, L0 = gat0 [x0, x1, x2, x3] s t := ⟨_, rfl⟩
  obtain ⟨L1, e1⟩ : ∃ L1, L1 = lay L0 4 sg := ⟨_, rfl⟩
  obtain ⟨L2, e2⟩ : ∃ L2, L2 = lay L1 34 db := ⟨_, rfl⟩
  obtain ⟨L3, e3⟩ : ∃ L3, L3 = lay L2 156 (db.take 3) := ⟨_, rfl⟩
  obtain ⟨L4, e4⟩ : ∃ L4, L4 = lay L3 64 u0 := ⟨_, rfl⟩
  obtain ⟨L5, e5⟩ : ∃ L5, L5 = lay L4 94 u1 := ⟨_, rfl⟩
  obtain ⟨L6, e6⟩ : ∃ L6, L6 = lay L5 124 u2 := ⟨_, rfl⟩
  have way : Way L0 L1 L2 L3 L4 L5 L6 [x0, x1, x2, x3] sg db u0 u1 u2 s t := ⟨e0, e1, e2, e3, e4, e5, e6, rfl, ks, kb, k0, k1, k2⟩
  have HFULL := Lib.hid (way.full hq3 ⟨hI.1, hI.2.1, hI.2.2, fun z h => sm z (is z h), fun z h => sm z (ib z h), fun z h => sm z (i0 z h), fun z h => sm z (i1 z h), fun z h => sm z (i2 z h)⟩)
  obtain ⟨l0, l1, l2, l3, l4, l5, l6⟩ := way.lens
  obtain ⟨⟨a0, z0⟩, ⟨a1, z1⟩, ⟨a2, z2⟩, ⟨a3, z3⟩, ⟨a4, z4⟩, pdb⟩ := way.finds hq3
  obtain ⟨g, hg⟩ : ∃ g, w.heap.size + 1 = g := ⟨_, rfl⟩
  rw [← e0] at HO3
  rw [hg] at HO3 ⊢
  have HF0 : Hid (∀ W, OwnV w.heap.size w g (ints L0) W → Calls Tryz.prog 223 #[.pointer (some ⟨g, 0, none⟩), .int .i64 0, .slice ao m cap] W fun e w' => e = .returned (.bool true) ∧ OwnV w.heap.size w g (ints L1) w') := Lib.hid (fun W hW' => by
    have h := fetch_any (cap := cap) (i := 0) hW' l0 hW (by decide) (by rw [a0]; exact h1) z0
    rw [e1]; exact h)
  have HF1 : Hid (∀ W, OwnV w.heap.size w g (ints L1) W → Calls Tryz.prog 223 #[.pointer (some ⟨g, 0, none⟩), .int .i64 1, .slice ao m cap] W fun e w' => e = .returned (.bool true) ∧ OwnV w.heap.size w g (ints L2) w') := Lib.hid (fun W hW' => by
    have h := fetch_any (cap := cap) (i := 1) hW' l1 hW (by decide) (by rw [a1]; exact h2) z1
    rw [e2]; exact h)
  have HF2 : Hid (∀ W, OwnV w.heap.size w g (ints L3) W → Calls Tryz.prog 223 #[.pointer (some ⟨g, 0, none⟩), .int .i64 2, .slice ao m cap] W fun e w' => e = .returned (.bool true) ∧ OwnV w.heap.size w g (ints L4) w') := Lib.hid (fun W hW' => by
    have h := fetch_any (cap := cap) (i := 2) hW' l3 hW (by decide) (by rw [a2]; exact h3) z2
    rw [e4]; exact h)
  have HF3 : Hid (∀ W, OwnV w.heap.size w g (ints L4) W → Calls Tryz.prog 223 #[.pointer (some ⟨g, 0, none⟩), .int .i64 3, .slice ao m cap] W fun e w' => e = .returned (.bool true) ∧ OwnV w.heap.size w g (ints L5) w') := Lib.hid (fun W hW' => by
    have h := fetch_any (cap := cap) (i := 3) hW' l4 hW (by decide) (by rw [a3]; exact h4) z3
    rw [e5]; exact h)
  have HF4 : Hid (∀ W, OwnV w.heap.size w g (ints L5) W → Calls Tryz.prog 223 #[.pointer (some ⟨g, 0, none⟩), .int .i64 4, .slice ao m cap] W fun e w' => e = .returned (.bool true) ∧ OwnV w.heap.size w g (ints L6) w') := Lib.hid (fun W hW' => by
    have h := fetch_any (cap := cap) (i := 4) hW' l5 hW (by decide) (by rw [a4]; exact h5) z4
    rw [e6]; exact h)
  have HDI : Hid (∀ W, OwnV w.heap.size w g (ints L2) W → IArg W (some ⟨g, 34, none⟩) (30 : Nat) (30 : Nat) db) := Lib.hid (fun W hW' => by
    have h := (chart_of_own hW' l2).page 1
    rw [pdb] at h
    have h2 := iarg_of_range (cap := 30) h (fun z hz => sm z (ib z hz)) (by omega) (by omega)
    rw [kb] at h2
    exact h2)
  have HL2 := Lib.hid l2
  have HE3 : Hid (lay L2 156 (db.take 3) = L3) := Lib.hid e3.symm
  have t3 : ¬ (3 : Int) < ((trimL db).length : Int) := by omega
  have HTR : Hid (∀ W, OwnV w.heap.size w g (ints L2) W → Calls Tryz.prog 173 #[.slice (some ⟨g, 34, none⟩) (30 : Nat) (30 : Nat)] W fun e w' => e = .returned (.slice (some ⟨g, 34, none⟩) (trimL db).length (30 : Nat)) ∧ W = w') := Lib.hid (fun W hW' => trimmed_any _ 30 30 db W (HDI.out W hW'))
  generalize (trimL db).length = n at *
  clear way e0 e1 e2 e3 e4 e5 e6 l0 l1 l2 l3 l4 l5 l6 a0 a1 a2 a3 a4 z0 z1 z2 z3 z4 pdb ks kb k0 k1 k2 is ib i0 i1 i2 h1 h2 h3 h4 h5 hW hI sm htl hq3 HO2 HN2 HB2
  go_wp2_with (first
    | (go_at_call 223; have gt := HO4; clear gt; refine (HF1.out _ HO4.out).mono ?_; rintro e W5 ⟨rfl, ho⟩; have HO5 := Lib.hid ho; clear ho)
    | (go_at_call 223; refine (HF0.out _ HO3.out).mono ?_; rintro e W4 ⟨rfl, ho⟩; have HO4 := Lib.hid ho; clear ho)
    | (go_at_call 173; refine (HTR.out _ HO5.out).mono ?_; rintro e w6 ⟨rfl, rfl⟩))
  have HCC := Lib.hid (own_copy_ints (off := 156) (len := 3) (cap := 3) HO5.out.drew (by rw [HL2.out]; decide) _ _ _ _ ((HDI.out _ HO5.out).drew) 3)
  rw [HE3.out] at HCC
  refine wp_region_still_tail 9 (by kernel_rfl) (by kernel_rfl) ?_
  simp only [List.take_succ_cons, List.take_zero, List.drop_succ_cons, List.drop_zero]
  try rw [drew_of_r]
  iterate 9 still_step
  refine wpStill_nil ?_
  go_wp2_with (refine wp_copy rfl (.tmp 45) (.tmp 50) 50 50 rfl _ _ rfl rfl _ HCC.out ?_; rintro v7 W7 ⟨rfl, hO7, hK7⟩; have HO7 := Lib.hid hO7; clear hO7 hK7)
  go_loopw [7] (fun iv wr => ∃ i : Int, iv = .int .i64 i ∧ (2 ≤ i ∧ i ≤ 5) ∧ Hid ((i = 2 → OwnV w.heap.size w g (ints L3) wr) ∧ (i = 3 → OwnV w.heap.size w g (ints L4) wr) ∧ (i = 4 → OwnV w.heap.size w g (ints L5) wr) ∧ (i = 5 → OwnV w.heap.size w g (ints L6) wr))) (fun iv _ => 5 - (intOf iv).toNat)
  case atStart => exact ⟨2, rfl, by decide, Lib.hid ⟨fun _ => HO7.out, fun h => absurd h (by decide), fun h => absurd h (by decide), fun h => absurd h (by decide)⟩⟩
  case round =>
    obtain ⟨i, rfl, hi, HR⟩ := hrel
    by_cases hlt : i < 5
    · obtain rfl | rfl | rfl : i = 2 ∨ i = 3 ∨ i = 4 := by omega
      · have cF := HF2.out _ (HR.out.1 rfl)
        go_wp2_with (go_at_call 223; refine cF.mono ?_; rintro e w8 ⟨rfl, ho⟩; have HO8 := Lib.hid ho; clear ho)
        go_roundw
        case rel => exact ⟨3, by go_num, by decide, Lib.hid ⟨fun h => absurd h (by decide), fun _ => HO8.out, fun h => absurd h (by decide), fun h => absurd h (by decide)⟩⟩
        case measure => simp [intOf]
      · have cF := HF3.out _ (HR.out.2.1 rfl)
        go_wp2_with (go_at_call 223; refine cF.mono ?_; rintro e w8 ⟨rfl, ho⟩; have HO8 := Lib.hid ho; clear ho)
        go_roundw
        case rel => exact ⟨4, by go_num, by decide, Lib.hid ⟨fun h => absurd h (by decide), fun h => absurd h (by decide), fun _ => HO8.out, fun h => absurd h (by decide)⟩⟩
        case measure => simp [intOf]
      · have cF := HF4.out _ (HR.out.2.2.1 rfl)
        go_wp2_with (go_at_call 223; refine cF.mono ?_; rintro e w8 ⟨rfl, ho⟩; have HO8 := Lib.hid ho; clear ho)
        go_roundw
        case rel => exact ⟨5, by go_num, by decide, Lib.hid ⟨fun h => absurd h (by decide), fun h => absurd h (by decide), fun h => absurd h (by decide), fun _ => HO8.out⟩⟩
        case measure => simp [intOf]
    · obtain rfl : i = 5 := by omega
      have HO9 : Hid (OwnV w.heap.size w g (ints L6) wr) := Lib.hid (HR.out.2.2.2 rfl)
      go_wp2_with fail
      go_ret2
      first | exact ⟨g, L6, rfl, HO9.out, HFULL.out⟩ | exact ⟨g, rfl, L6, HO9.out, HFULL.out⟩ | exact ⟨L6, g, rfl, HO9.out, HFULL.out⟩

end Go.Proofs.YtmcblhgpcgnaoaaGreatDoor

