/-
  Proved here: the blocks that the landed tree lays a chart's pages into (blocks).
  The conditions stand at each theorem.
-/
import Derived.Test.YtdbkhhmadefccaaTrPlace
namespace Go.Proofs.Ytdbkhhmadefccaa
open Go.RowKit
set_option linter.unusedVariables false
set_option linter.unusedSimpArgs false

/-- A list of writes: its cells. -/
def WIs (w : World) (ao : Option Addr) (m : Nat) (ws : List (Int × List Int)) : Prop :=
  ws.length = m ∧ m ≤ 140737488351232 ∧ (m = 0 ∨ ∃ b off, ao = some ⟨b, off, none⟩ ∧ ∀ (j : Nat) (a : Int) (zs : List Int), ws[j]? = some (a, zs) → w.cell? ⟨b, off + j * 2, none⟩ = some (.int .i64 a) ∧ I64 a ∧
    ∃ ad len cap, w.cell? ⟨b, off + j * 2 + 1, none⟩ = some (.slice ad len cap) ∧ Arg w ad len cap zs)

theorem WIs.later {w wx : World} {ao : Option Addr} {m : Nat} {ws : List (Int × List Int)} (h : WIs w ao m ws) (hb : Below w.heap.size w wx) : WIs wx ao m ws := by
  obtain ⟨h1, h2, h3⟩ := h
  refine ⟨h1, h2, h3.imp_right ?_⟩
  rintro ⟨b, off, rfl, hc⟩
  refine ⟨b, off, rfl, fun j a zs hj => ?_⟩
  obtain ⟨c1, c2, ad, len, cap, c3, c4⟩ := hc j a zs hj
  exact ⟨cell_later hb c1, c2, ad, len, cap, cell_later hb c3, c4.later hb⟩

theorem WIs.at {w : World} {ao : Option Addr} {m i : Nat} {ws : List (Int × List Int)} (h : WIs w ao m ws) (hi : i < m) : ∃ b off a zs ad len cap, ao = some ⟨b, off, none⟩ ∧ ws[i]? = some (a, zs) ∧
    w.cell? ⟨b, off + i * 2, none⟩ = some (.int .i64 a) ∧ I64 a ∧ w.cell? ⟨b, off + i * 2 + 1, none⟩ = some (.slice ad len cap) ∧ Arg w ad len cap zs := by
  obtain ⟨h1, h2, h3⟩ := h
  obtain ⟨b, off, rfl, hc⟩ := h3.resolve_left (by omega)
  have hx : ws[i]? = some (ws[i]'(by omega)) := List.getElem?_eq_getElem (by omega)
  obtain ⟨c1, c2, ad, len, cap, c3, c4⟩ := hc i _ _ hx
  exact ⟨b, off, _, _, ad, len, cap, rfl, hx, c1, c2, c3, c4⟩

theorem elemW : ElemR 33 64 (.agg #[.int .i64 0, .slice none 0 0]) 2 32 := ⟨Try.underlying33, by kernel_rfl, rfl, by decide, by decide⟩

/-- Where a row lies behind 'append'. -/
theorem append_block {t e : TypeId} {z : Value} {sz nb : Nat} (hE : ElemR t e z sz nb) (w : World) (ty : TypeId) (base n : Nat) (v v' : Value) (w' : World) (xs : List Value) (hown : w.ownsRow base e sz v n xs) (ad : Addr) (m c : Nat) (news : List Value) (hl : news.length = m * sz)
    (hx : ∀ j u, news[j]? = some u → w.cell? (ad.add j) = some u) (h1 : ∀ u ∈ news, u.oneCell' = true) (hb : n + m ≤ 100000) (hm : 0 < m)
    (hr : (Builtin.append_ #[t, t] ty #[v, .slice (some ad) m c]).run Try.prog w = .ok v' w') : v'.ownBlock = v.ownBlock ∨ v'.ownBlock = some w.heap.size := by
  obtain ⟨hu, hi, hz, hp, hnb⟩ := hE
  obtain ⟨i0, hi0, hz0, hz1, hz2⟩ := info_parts hi
  have hbytes : (n + m) * i0.bytes ≤ 140737488355328 := by
    rw [hz2]
    have : (n + m) * nb ≤ 100001 * 64 := Nat.mul_le_mul (by omega) hnb
    omega
  subst hz1
  rcases hown.2 with ⟨rfl, rfl⟩ | ⟨g, cap, cur, rfl, hbg, hg, hnc, hcm, hcs, htake⟩
  · have h := run_append_nil (P := Try.prog) w t ty e i0 z hu hi0 hz0 ad m c news hl hx hm (by omega) (by rw [Nat.zero_add] at hbytes; omega)
    rw [hr] at h
    cases h
    exact Or.inr rfl
  · by_cases hroom : n + m ≤ cap
    · have h := run_append_room (P := Try.prog) w t ty e i0 hu hi0 g n cap cur hg ad m c news hl hx h1 hroom (by rw [hl, hcs, ← Nat.add_mul]; exact Nat.mul_le_mul_right _ hroom)
      rw [hr] at h
      cases h
      exact Or.inl rfl
    · have h := run_append_grow (P := Try.prog) w t ty e i0 z hu hi0 hz0 ⟨g, 0, none⟩ n cap xs hown.1 (hown.cells (g := g) rfl) ad m c news hl hx (by omega) (by omega) (growslice_fits (by omega) hbytes)
      rw [hr] at h
      cases h
      exact Or.inr rfl

section
variable {ops : Array Oper} {rest : List Oper} {o : Oper} {a : Act} {w : World} {Q : Exit → Act → World → Prop}

/-- 'append(dst, news...)', told with where the row lies. -/
theorem wp_append_at {t e : TypeId} {z : Value} {sz nb : Nat} (hE : ElemR t e z sz nb) (hgd : o.guard = none) (s y : Operand) (ho : o.op = .call { callee := .builtin .append, args := #[s, y], argTypes := #[t, t] })
    (base n : Nat) (v : Value) (xs : List Value) (hs : a.eval s = v) (hown : w.ownsRow base e sz v n xs) (ad : Addr) (m c : Nat) (news : List Value) (hl : news.length = m * sz) (hm : 0 < m) (hy : a.eval y = .slice (some ad) m c)
    (hx : ∀ j u, news[j]? = some u → w.cell? (ad.add j) = some u) (h1 : ∀ u ∈ news, u.oneCell' = true) (hb : n + m ≤ 100000) (hbase : base ≤ w.heap.size)
    (h : ∀ v' w', w'.ownsRow base e sz v' (n + m) (xs ++ news) → w.grownBy w' v.ownBlock → Below base w w' → (v'.ownBlock = v.ownBlock ∨ v'.ownBlock = some w.heap.size) → wpList Try.prog ops Q rest (a.put o.dst v') w') : wpList Try.prog ops Q (o :: rest) a w := by
  have hE2 := hE
  obtain ⟨hu, hi, hz, hp, hnb⟩ := hE
  obtain ⟨i0, hi0, hz0, hz1, hz2⟩ := info_parts hi
  obtain ⟨v', w', hrun, h2, h3, _⟩ := run_append_own (P := Try.prog) w base t o.type e i0 z sz nb hu hi0 hz0 hz1 hz2 hz hp v n xs hown ad m c news hl hx h1
      (by unfold maxLen; omega) (by have : (n + m) * nb ≤ 100001 * 64 := Nat.mul_le_mul (by omega) hnb
                                    omega) hbase
  have h4 := append_block hE2 w o.type base n v v' w' xs hown ad m c news hl hx h1 hb hm hrun
  refine wpList_plain hgd fun K hK => ?_
  unfold Oper.wp
  simp [execOp, ho, resolve, invoke, builtin, hs, hy, hrun, Result.andThen]
  exact hK _ _ (h v' w' h2 h3 ((Below.refl base w).grown h3 hbase (fun k hk => (hown.lt k hk).1)) h4)
end

/-- A list of writes of the call's own, each text in a block apart from the row. -/
def WOwn (base : Nat) (w : World) (v : Value) (ws : List (Int × List Int)) : Prop :=
  ∃ xs, w.ownsRow base 64 2 v ws.length xs ∧ ∀ (j : Nat) (a : Int) (zs : List Int), ws[j]? = some (a, zs) → xs[j * 2]? = some (.int .i64 a) ∧ I64 a ∧ ∃ db off cap, xs[j * 2 + 1]? = some (.slice (some ⟨db, off, none⟩) 64 cap) ∧ (base ≤ db ∧ db < w.heap.size) ∧ v.ownBlock ≠ some db ∧ Arg w (some ⟨db, off, none⟩) 64 cap zs

theorem WOwn.nil (base : Nat) (w : World) : WOwn base w (.slice none 0 0) [] := ⟨[], owns_nil_r _ _ _ _, fun j a zs h => by simp at h⟩

theorem arg_grown {w w' : World} {db off len cap : Nat} {zs : List Int} {row : Option Nat} (h : Arg w (some ⟨db, off, none⟩) len cap zs) (hg : w.grownBy w' row) (hne : row ≠ some db) : Arg w' (some ⟨db, off, none⟩) len cap zs := by
  obtain ⟨⟨h1, h2, h3, h4⟩, h5⟩ := h
  refine ⟨⟨h1, h2, h3, h4.imp_right ?_⟩, h5⟩
  rintro ⟨b, o, he, hc⟩
  simp only [Option.some.injEq, Addr.mk.injEq, and_true] at he
  obtain ⟨rfl, rfl⟩ := he
  exact ⟨db, off, rfl, fun j hj => hg.cell (hc j hj) (fun e => hne e.symm)⟩

theorem WOwn.snoc {base : Nat} {wr wx w4 : World} {v v' : Value} {ws : List (Int × List Int)} {a : Int} {zs : List Int} {xs : List Value} {db off cap : Nat} {ob : Obj}
    (h1 : wr.ownsRow base 64 2 v ws.length xs) (h2 : ∀ (j : Nat) (a : Int) (zs : List Int), ws[j]? = some (a, zs) → xs[j * 2]? = some (.int .i64 a) ∧ I64 a ∧ ∃ db off cap, xs[j * 2 + 1]? = some (.slice (some ⟨db, off, none⟩) 64 cap) ∧ (base ≤ db ∧ db < wr.heap.size) ∧ v.ownBlock ≠ some db ∧ Arg wr (some ⟨db, off, none⟩) 64 cap zs)
    (hb : Below wr.heap.size wr wx) (hbs : base ≤ wr.heap.size) (ha : I64 a) (hd : wr.heap.size ≤ db) (hd2 : db < wx.heap.size) (hA : Arg wx (some ⟨db, off, none⟩) 64 cap zs)
    (hown : w4.ownsRow base 64 2 v' (ws.length + 1) (xs ++ [.int .i64 a, .slice (some ⟨db, off, none⟩) 64 cap])) (hg : (wx.alloc ob).grownBy w4 v.ownBlock) (hv : v'.ownBlock = v.ownBlock ∨ v'.ownBlock = some (wx.alloc ob).heap.size) : WOwn base w4 v' (ws ++ [(a, zs)]) := by
  have hxl : xs.length = ws.length * 2 := h1.1
  have hsz : wr.heap.size ≤ wx.heap.size := hb.size
  have hsz4 : (wx.alloc ob).heap.size ≤ w4.heap.size := hg.size
  rw [World.size_alloc] at hsz4
  have hal : ∀ {d o l c : Nat} {y : List Int}, Arg wx (some ⟨d, o, none⟩) l c y → Arg (wx.alloc ob) (some ⟨d, o, none⟩) l c y := fun h => h.later ((Below.refl _ _).alloc (Nat.le_refl _) _)
  refine ⟨_, by rw [List.length_append]; exact hown, fun j b ys hj => ?_⟩
  by_cases hjl : j < ws.length
  · rw [List.getElem?_append_left hjl] at hj
    obtain ⟨c1, c2, d, o, c, c3, c4, c5, c6⟩ := h2 j b ys hj
    refine ⟨by rw [List.getElem?_append_left (by omega)]; exact c1, c2, d, o, c, by rw [List.getElem?_append_left (by omega)]; exact c3, ⟨c4.1, by omega⟩, ?_, arg_grown (hal (c6.later hb)) hg c5⟩
    rcases hv with e | e
    · rw [e]; exact c5
    · rw [e, World.size_alloc]
      intro h
      simp at h
      omega
  · have hj0 : j = ws.length := by
      have := (List.getElem?_eq_some_iff.1 hj).1
      simp at this
      omega
    subst hj0
    rw [List.getElem?_append_right (Nat.le_refl _), Nat.sub_self] at hj
    simp at hj
    obtain ⟨rfl, rfl⟩ := hj
    have hvd : v.ownBlock ≠ some db := fun e => by have := (h1.lt db e).2; omega
    refine ⟨by rw [List.getElem?_append_right (by omega), hxl, Nat.sub_self]; rfl, ha, db, off, cap, by rw [List.getElem?_append_right (by omega), show ws.length * 2 + 1 - xs.length = 1 by omega]; rfl, ⟨by omega, by omega⟩, ?_, arg_grown (hal hA) hg hvd⟩
    rcases hv with e | e
    · rw [e]; exact hvd
    · rw [e, World.size_alloc]
      intro h
      simp at h
      omega

theorem owns_keeps {w w' : World} {base n sz g : Nat} {e : TypeId} {v : Value} {xs : List Value} (h : w.ownsRow base e sz v n xs) (hk : Keeps g w w') (hg : g < base) : w'.ownsRow base e sz v n xs := by
  refine ⟨h.1, h.2.imp_right ?_⟩
  rintro ⟨b, cap, cur, hv, hb, hh, rest⟩
  exact ⟨b, cap, cur, hv, hb, by rw [hk.2 b (by omega)]; exact hh, rest⟩
theorem arg_keeps {w w' : World} {db off len cap g : Nat} {zs : List Int} (h : Arg w (some ⟨db, off, none⟩) len cap zs) (hk : Keeps g w w') (hne : db ≠ g) : Arg w' (some ⟨db, off, none⟩) len cap zs := by
  obtain ⟨⟨h1, h2, h3, h4⟩, h5⟩ := h
  refine ⟨⟨h1, h2, h3, h4.imp_right ?_⟩, h5⟩
  rintro ⟨b, o, he, hc⟩
  simp only [Option.some.injEq, Addr.mk.injEq, and_true] at he
  obtain ⟨rfl, rfl⟩ := he
  exact ⟨db, off, rfl, fun j hj => by rw [hk.cell (p := ⟨db, off + j, none⟩) hne]; exact hc j hj⟩
theorem WOwn.keeps {base g : Nat} {w w' : World} {v : Value} {ws : List (Int × List Int)} (h : WOwn base w v ws) (hk : Keeps g w w') (hg : g < base) : WOwn base w' v ws := by
  obtain ⟨xs, ho, hx⟩ := h
  refine ⟨xs, owns_keeps ho hk hg, fun j a zs hj => ?_⟩
  obtain ⟨c1, c2, d, o, c, c3, c4, c5, c6⟩ := hx j a zs hj
  exact ⟨c1, c2, d, o, c, c3, ⟨c4.1, by rw [hk.1]; exact c4.2⟩, c5, arg_keeps c6 hk (by omega)⟩
theorem WOwn.mono {base base' : Nat} {w : World} {v : Value} {ws : List (Int × List Int)} (h : WOwn base' w v ws) (hb : base ≤ base') : WOwn base w v ws := by
  obtain ⟨xs, ho, hx⟩ := h
  refine ⟨xs, owns_mono_r ho hb, fun j a zs hj => ?_⟩
  obtain ⟨c1, c2, d, o, c, c3, c4, c5, c6⟩ := hx j a zs hj
  exact ⟨c1, c2, d, o, c, c3, ⟨by omega, c4.2⟩, c5, c6⟩
theorem WOwn.later {base : Nat} {w w' : World} {v : Value} {ws : List (Int × List Int)} (h : WOwn base w v ws) (hb : Below w.heap.size w w') : WOwn base w' v ws := by
  obtain ⟨xs, ho, hx⟩ := h
  refine ⟨xs, owns_later_r ho hb, fun j a zs hj => ?_⟩
  obtain ⟨c1, c2, d, o, c, c3, c4, c5, c6⟩ := hx j a zs hj
  have := hb.size
  exact ⟨c1, c2, d, o, c, c3, ⟨c4.1, by omega⟩, c5, c6.later hb⟩

theorem WOwn.wis {base : Nat} {w : World} {v : Value} {ws : List (Int × List Int)} (h : WOwn base w v ws) (hl : ws.length ≤ 1000) : ∃ ao cap, v = .slice ao ws.length cap ∧ WIs w ao ws.length ws ∧ (ao = none → ws.length = 0 ∧ cap = 0) ∧ ws.length ≤ cap := by
  obtain ⟨xs, ho, hx⟩ := h
  rcases ho.2 with ⟨rfl, h0⟩ | ⟨g, cap, cur, hv, hb, _, hc, _⟩
  · exact ⟨none, 0, by rw [h0], ⟨rfl, by omega, Or.inl h0⟩, fun _ => ⟨h0, rfl⟩, by omega⟩
  · refine ⟨_, cap, hv, ⟨rfl, by omega, Or.inr ⟨g, 0, rfl, fun j a zs hj => ?_⟩⟩, (fun e => by cases e), hc⟩
    obtain ⟨c1, c2, d, o, c, c3, _, _, c6⟩ := hx j a zs hj
    have e1 := ho.cells (g := g) (by rw [hv]; rfl) _ _ c1
    have e2 := ho.cells (g := g) (by rw [hv]; rfl) _ _ c3
    rw [Go.WideShapes.add_plain] at e1 e2
    exact ⟨e1, c2, _, _, _, by rw [Nat.add_assoc]; exact e2, c6⟩

/-- What the blocks of a chart hold: each page that lies in one. -/
def blocksL (L : List Int) (i : Nat) : List (Int × List Int) := (List.range i).flatMap fun k => if L.getD (154 + k) 0 = 0 then [] else [(L.getD (154 + k) 0, pageB (pageL L k))]
theorem blocksL_succ (L : List Int) (i : Nat) : blocksL L (i + 1) = blocksL L i ++ (if L.getD (154 + i) 0 = 0 then [] else [(L.getD (154 + i) 0, pageB (pageL L i))]) := by
  unfold blocksL
  rw [List.range_succ, List.flatMap_append]
  simp
theorem blocksL_le (L : List Int) : ∀ i, (blocksL L i).length ≤ i
  | 0 => Nat.zero_le _
  | i + 1 => by
    have := blocksL_le L i
    rw [blocksL_succ, List.length_append]
    split <;> simp <;> omega

theorem uAt : Try.prog.underlying 55 = some (.array 5 3) := Try.underlying55
theorem iAt {p : List Int} (h : p.length = 5) : (Try.prog.info? 55).map (·.size) = some (ints p).length := by rw [ints_length, h]; kernel_rfl

set_option maxRecDepth 100000 in
set_option maxHeartbeats 6400000 in
theorem blocks_any (g : Nat) (L : List Int) (w : World) (hC : ChartAt w g L) (hz : ∀ z ∈ L, 0 ≤ z ∧ z ≤ 65535) :
    Calls Try.prog 25 #[.pointer (some ⟨g, 0, none⟩)] w fun e w' => ∃ v, e = .returned v ∧ WOwn w.heap.size w' v (blocksL L 5) ∧ Below w.heap.size w w' := by
  have HC := Lib.hid hC
  have HZ := Lib.hid hz
  have HLL := Lib.hid hC.1
  have HAR : Hid (w.rangeAt g 154 (ints ((L.drop 154).take 5))) := Lib.hid (range_part hC.2 154 5)
  have hl5 : ((L.drop 154).take 5).length = 5 := by rw [List.length_take, List.length_drop, hC.1]; decide
  have HI5 := Lib.hid (iAt hl5)
  have HIDX : Hid (∀ (i : Nat), i < 5 → ∀ W, (Instr.index 55 (.agg (ints ((L.drop 154).take 5)).toArray) (.int .i64 (i : Int))).run Try.prog W = .ok (.int .i64 (L.getD (154 + i) 0)) W) := Lib.hid (fun i hi W => by
    have h := idx_ints uAt hl5 hi W
    rw [take_getD' _ _ _ hi, drop_getD'] at h
    exact h)
  generalize (L.drop 154).take 5 = A5 at *
  clear hC hz hl5
  go_enter Try.func25, Try.ntmps25
  go_wp2_with (refine wpList_load_mid rfl 55 (.tmp 8) rfl g 154 rfl (ints A5) _ HAR.out uAt rfl HI5.out ?_)
  go_loopw [3, 10] (fun sv iv wr => ∃ i : Nat, iv = .int .i64 (i : Int) ∧ i ≤ 5 ∧ Hid (WOwn w.heap.size wr sv (blocksL L i)) ∧ Hid (Below w.heap.size w wr)) (fun _ iv _ => 5 - (intOf iv).toNat)
  case atStart => exact ⟨0, rfl, Nat.zero_le _, Lib.hid (WOwn.nil _ _), Lib.hid (Below.refl _ _)⟩
  case round =>
    obtain ⟨i, rfl, hi, HW, HB⟩ := hrel
    by_cases hlt : i < 5
    · have i1 : (i : Int) < 5 := by omega
      have i2 : i < 5 := hlt
      have HIX := Lib.hid (HIDX.out i hlt)
      have HS := Lib.hid (blocksL_succ L i)
      have hx : 0 ≤ L.getD (154 + i) 0 ∧ L.getD (154 + i) 0 ≤ 65535 := HZ.out _ (by rw [List.getD_eq_getElem?_getD, List.getElem?_eq_getElem (by rw [HLL.out]; omega)]; exact List.getElem_mem _)
      have hpl : (pageL L i).length = 30 := pageL_length HLL.out hlt
      have cW := fun W => write_any (pageL L i) W hpl (fun x hx => HZ.out x (List.mem_of_mem_drop (List.mem_of_mem_take hx)))
      have HPR : Hid (wr.rangeAt g (4 + i * 30) (ints (pageL L i))) := Lib.hid ((HC.out.later HB.out).page i)
      have HPI := Lib.hid (iPage hpl)
      unfold pageV at cW
      generalize L.getD (154 + i) 0 = x at *
      by_cases h0 : x = 0
      · subst h0
        have HS2 : Hid (blocksL L (i + 1) = blocksL L i) := Lib.hid (by rw [HS.out, if_pos rfl, List.append_nil])
        clear cW HS hx hpl
        go_wp2_with (refine wp_idx rfl (.tmp 9) (.tmp 10) 55 rfl _ HIX.out ?_)
        go_roundw
        case rel => exact ⟨i + 1, by go_num, by omega, Lib.hid (by rw [HS2.out]; exact HW.out), HB⟩
        case measure => simp [intOf]; omega
      · have HS2 : Hid (blocksL L (i + 1) = blocksL L i ++ [(x, pageB (pageL L i))]) := Lib.hid (by rw [HS.out, if_neg h0])
        have hle := blocksL_le L i
        have HX : Hid (I64 x) := Lib.hid ⟨by omega, by omega⟩
        obtain ⟨xs, ho, hxs⟩ := HW.out
        obtain ⟨ra, rc, rfl⟩ := owns_shape_r ho
        have HO := Lib.hid ho
        have HXS := Lib.hid hxs
        have HLE := Lib.hid hle
        have b0 : (x == 0) = false := by simpa using h0
        have HP64 : Hid ((pageB (pageL L i)).length = 64) := Lib.hid (page_sealed (by omega)).1
        obtain ⟨n, hn⟩ : ∃ n, (blocksL L i).length = n := ⟨_, rfl⟩
        have HN := Lib.hid hn
        rw [hn] at hle
        rw [hn] at HO HXS
        rw [hn]
        clear hx hpl ho hxs HS h0 hn
        go_wp2_with (first
          | (refine wp_idx rfl (.tmp 9) (.tmp 10) 55 rfl _ HIX.out ?_)
          | (refine wpList_load_mid rfl 48 (.tmp 22) rfl g (4 + i * 30) rfl (ints (pageL L i)) _ HPR.out uPage rfl HPI.out ?_)
          | (go_at_call 40; refine (cW _).mono ?_; rintro e w5 ⟨v5, rfl, hf, hb⟩; obtain ⟨da, dc, rfl, hA5, hf5⟩ := hf; obtain ⟨db, doff, rfl, hdb, _⟩ := hf5.resolve_left (by intro h; have := congrArg List.length h; rw [HP64.out] at this; simp at this); rw [HP64.out] at hA5; rw [HP64.out]; have HA5 := Lib.hid hA5; have HDB := Lib.hid hdb; have HB5 := Lib.hid hb; clear hA5 hf5 hdb hb)
          | (at_builtin; refine wp_append_at elemW rfl (.tmp 16) (.tmp 26) rfl w.heap.size n _ xs rfl ((owns_later_r HO.out HB5.out).alloc _) ⟨w5.heap.size, 0, none⟩ 1 1 [.int .i64 x, .slice (some ⟨db, doff, none⟩) 64 dc] rfl (by decide) rfl (news_r w5 [.int .i64 x, .slice (some ⟨db, doff, none⟩) 64 dc] _) (by intro q hq; simp only [List.mem_cons, List.mem_nil_iff, or_false] at hq; rcases hq with rfl | rfl <;> rfl) (by omega) (by have h1 := HB.out.size; have h2 := HB5.out.size; simp; omega) ?_; intro v6 w6 hown6 hg6 hb6 hv6; have HO6 := Lib.hid hown6; have HG6 := Lib.hid hg6; have HB6 := Lib.hid hb6; have HV6 := Lib.hid hv6; clear hown6 hg6 hb6 hv6))
        have HLT : Hid (db < w5.heap.size) := Lib.hid (by
          obtain ⟨b', o', he, hc⟩ := HA5.out.1.2.2.2.resolve_left (by decide)
          simp only [Option.some.injEq, Addr.mk.injEq, and_true] at he
          obtain ⟨rfl, rfl⟩ := he
          exact World.block_lt_of_cell? _ _ (hc 0 (by decide)))
        go_roundw
        case rel => exact ⟨i + 1, by go_num, by omega, Lib.hid (by
          rw [HS2.out]
          exact WOwn.snoc (v := .slice ra n rc) (by rw [HN.out]; exact HO.out) HXS.out HB5.out HB.out.size HX.out HDB.out HLT.out HA5.out (by rw [HN.out]; exact HO6.out) HG6.out HV6.out), Lib.hid (((HB.out.trans (HB5.out.mono HB.out.size)).alloc (by have h1 := HB.out.size; have h2 := HB5.out.size; omega) _).trans HB6.out)⟩
        case measure => simp [intOf]; omega
    · obtain rfl : i = 5 := by omega
      go_wp2_with fail
      go_ret
      exact ⟨_, rfl, HW.out, HB.out⟩

end Go.Proofs.Ytdbkhhmadefccaa
