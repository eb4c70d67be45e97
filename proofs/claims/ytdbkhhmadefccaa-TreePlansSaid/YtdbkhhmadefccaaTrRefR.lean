/-
  Proved here: what the document's own Plan answers of pointers and fresh blocks that will do.
  The conditions stand at each theorem.
-/
import Derived.Test.YtdbkhhmadefccaaTrRefQ
import Derived.Test.YtdbkhhmadefccaaAwake11
namespace Go.Proofs.Ytdbkhhmadefccaa
open Go.RowKit
set_option linter.unusedVariables false
set_option linter.unusedSimpArgs false

theorem getD_zero_of {zs : List Int} {s n : Nat} (h : partP zs s n = List.replicate n 0) {j : Nat} (hj : j < n) : zs.getD (s + j) 0 = 0 := by
  have := partP_get zs s n j hj
  rw [h, List.getElem?_replicate, if_pos hj] at this
  exact (Option.some.inj this).symm

theorem some_append (zs : List Int) (s n m : Nat) : someP zs s (n + m) = (someP zs s n || someP zs (s + n) m) := by
  unfold someP
  rw [← partP_append, List.any_append]

theorem some62 {zs : List Int} (h : zs.length ≤ 96) : someP zs 34 62 = doubleB zs := by
  have e : someP zs 34 92 = someP zs 34 62 := by
    rw [show 92 = 62 + 30 from rfl, some_append]
    have : someP zs (34 + 62) 30 = false := by
      unfold someP
      rw [partP_behind zs 96 30 h]
      decide
    rw [this, Bool.or_false]
  have e2 : someP zs 34 (30 + (30 + 30)) = (someP zs 34 30 || (someP zs 64 30 || someP zs 94 30)) := by rw [some_append, some_append]
  have e3 : someP zs 34 90 = someP zs 34 92 := by
    rw [show 92 = 90 + 2 from rfl, some_append]
    have : someP zs (34 + 90) 2 = false := by
      unfold someP
      rw [partP_behind zs 124 2 (by omega)]
      decide
    rw [this, Bool.or_false]
  rw [← e, ← e3]
  show someP zs 34 (30 + (30 + 30)) = _
  rw [e2]
  unfold doubleB underN
  cases someP zs 34 30 <;> cases someP zs 64 30 <;> cases someP zs 94 30 <;> rfl

theorem ownV_at {w W : World} {cs : List Value} (T : TypeId) (h : Below w.heap.size w W) : OwnV w.heap.size w W.heap.size cs (W.alloc (.cells cs.toArray T)) := by
  refine ⟨fun j x hj => ?_, fun j => by rw [World.frozen?_alloc_mark]; simp, h.size, h.alloc h.size _⟩
  rw [World.cell?_alloc_new]
  simpa using hj

theorem at_fresh {w : World} {bo : Option Addr} {n c N k : Nat} {fs : List Int} (hF : IArg w bo n c fs) (hN : N ≤ n) (hd : ∀ x ∈ fs.take N, dataP x = true) (hk : k < N) :
    ∃ b off, bo = some ⟨b, off, none⟩ ∧ w.cell? ⟨b, off + k, none⟩ = some (.int .i64 (fs.getD k 0)) ∧ 59 ≤ fs.getD k 0 ∧ fs.getD k 0 ≤ 479 := by
  obtain ⟨b, off, x, rfl, hx, hc, hI⟩ := hF.at (i := k) (by omega)
  have e : fs.getD k 0 = x := by rw [List.getD_eq_getElem?_getD, hx]; rfl
  have hm : x ∈ fs.take N := by
    rw [List.mem_iff_getElem?]
    exact ⟨k, by rw [List.getElem?_take, if_pos hk, hx]⟩
  have := hd x hm
  unfold dataP at this
  simp only [decide_eq_true_eq] at this
  exact ⟨b, off, rfl, by rw [e]; exact hc, by omega, by omega⟩

theorem part_small {zs : List Int} (hp : apartL zs = true) (s n : Nat) : ∀ z ∈ partP zs s n, 0 ≤ z ∧ z ≤ 65535 := fun z hz => by
  unfold partP at hz
  obtain ⟨i, _, rfl⟩ := List.mem_map.1 hz
  show 0 ≤ zs.getD (s + i) 0 ∧ _
  by_cases h : s + i < zs.length
  · have hm : zs.getD (s + i) 0 ∈ zs := by rw [List.getD_eq_getElem?_getD, List.getElem?_eq_getElem h]; exact List.getElem_mem _
    unfold apartL at hp
    rw [Bool.and_eq_true, List.all_eq_true] at hp
    have := hp.1 _ hm
    unfold okP at this
    simp only [decide_eq_true_eq] at this
    omega
  · rw [getD_behind _ _ (by omega)]
    decide

/-! ### The lists on the way -/

def underAt (zs fs : List Int) (i : Nat) : Int := [under0 zs fs, under1 zs fs, under2 zs fs].getD i 0
def dataW (zs fs : List Int) : Nat → List (Int × List Int)
  | 0 => []
  | i + 1 => dataW zs fs i ++ whenW (someP zs (34 + 30 * i) 30) (underAt zs fs i) (partP zs (34 + 30 * i) 30)
theorem dataW_le (zs fs : List Int) : ∀ i, (dataW zs fs i).length ≤ i
  | 0 => Nat.le_refl _
  | i + 1 => by
    have := dataW_le zs fs i
    unfold dataW whenW
    rw [List.length_append]
    split <;> simp <;> omega
theorem underAt_eq (zs fs : List Int) {i : Nat} (hi : i < 3) : underAt zs fs i = whenB (someP zs (34 + 30 * i) 30) (fs.getD ((someP zs 4 30).toNat + 1 + underC zs i) 0) := by
  match i, hi with
  | 0, _ => rfl
  | 1, _ =>
    show under1 zs fs = whenB (someP zs 64 30) (fs.getD ((someP zs 4 30).toNat + 1 + (0 + (someP zs 34 30).toNat)) 0)
    rw [Nat.zero_add]
    rfl
  | 2, _ =>
    show under2 zs fs = whenB (someP zs 94 30) (fs.getD ((someP zs 4 30).toNat + 1 + (0 + (someP zs 34 30).toNat + (someP zs 64 30).toNat)) 0)
    rw [Nat.zero_add, ← Nat.add_assoc]
    rfl
theorem writes_parts (zs fs : List Int) : writesP zs fs = whenW (someP zs 4 30) (singleP zs fs) (partP zs 4 30) ++ (whenW (doubleB zs) (doubleP zs fs) [under0 zs fs, under1 zs fs, under2 zs fs] ++ dataW zs fs 3) := by
  unfold writesP
  congr 2
  show _ = (([] ++ whenW (someP zs 34 30) (under0 zs fs) (partP zs 34 30)) ++ whenW (someP zs 64 30) (under1 zs fs) (partP zs 64 30)) ++ whenW (someP zs 94 30) (under2 zs fs) (partP zs 94 30)
  rw [List.nil_append, List.append_assoc]
theorem dataW_none {zs fs : List Int} (h : doubleB zs = false) : dataW zs fs 3 = [] := by
  show (([] ++ whenW (someP zs 34 30) _ _) ++ whenW (someP zs 64 30) _ _) ++ whenW (someP zs 94 30) _ _ = []
  unfold doubleB underN at h
  cases h1 : someP zs 34 30 <;> cases h2 : someP zs 64 30 <;> cases h3 : someP zs 94 30 <;> rw [h1, h2, h3] at h <;> first | rfl | (exact absurd h (by decide))
theorem underC_lt {zs : List Int} {i : Nat} (hi : i < 3) (h : someP zs (34 + 30 * i) 30 = true) : underC zs i < underN zs := by
  rw [← underC_three]
  match i, hi, h with
  | 0, _, h => show 0 < 0 + (someP zs 34 30).toNat + _ + _; rw [show someP zs 34 30 = true from h]; simp; omega
  | 1, _, h => show 0 + (someP zs 34 30).toNat < 0 + (someP zs 34 30).toNat + (someP zs 64 30).toNat + _; rw [show someP zs 64 30 = true from h]; simp; omega
  | 2, _, h => show 0 + (someP zs 34 30).toNat + (someP zs 64 30).toNat < 0 + (someP zs 34 30).toNat + (someP zs 64 30).toNat + (someP zs 94 30).toNat; rw [show someP zs 94 30 = true from h]; simp
theorem need_eq (zs : List Int) : needP zs = (someP zs 4 30).toNat + (doubleB zs).toNat + underN zs := by
  unfold needP doubleB
  by_cases h : underN zs = 0
  · rw [if_pos h, h]; simp
  · rw [if_neg h, decide_eq_true h]; simp; omega

/-- 'append(dst, news...)' as one operation of a statement that draws its order, told with where the row lies. -/
theorem op_append_at {t e : TypeId} {z : Value} {sz nb : Nat} (hE : ElemR t e z sz nb) {o : Oper} {a : Act} {w : World} {K : Act → World → Prop} {Q : Exit → Act → World → Prop} (s y : Operand) (ho : o.op = .call { callee := .builtin .append, args := #[s, y], argTypes := #[t, t] })
    (base n : Nat) (v : Value) (xs : List Value) (hs : a.eval s = v) (hown : w.ownsRow base e sz v n xs) (ad : Addr) (m c : Nat) (news : List Value) (hl : news.length = m * sz) (hm : 0 < m) (hy : a.eval y = .slice (some ad) m c)
    (hx : ∀ j u, news[j]? = some u → w.cell? (ad.add j) = some u) (h1 : ∀ u ∈ news, u.oneCell' = true) (hb : n + m ≤ 100000) (hbase : base ≤ w.heap.size)
    (h : ∀ v' w', w'.ownsRow base e sz v' (n + m) (xs ++ news) → w.grownBy w' v.ownBlock → Below base w w' → (v'.ownBlock = v.ownBlock ∨ v'.ownBlock = some w.heap.size) → K (a.put o.dst v') w') : Oper.wp Try.prog o a w K Q := by
  have hE2 := hE
  obtain ⟨hu, hi, hz, hp, hnb⟩ := hE
  obtain ⟨i0, hi0, hz0, hz1, hz2⟩ := info_parts hi
  obtain ⟨v', w', hrun, h2, h3, _⟩ := run_append_own (P := Try.prog) w base t o.type e i0 z sz nb hu hi0 hz0 hz1 hz2 hz hp v n xs hown ad m c news hl hx h1
      (by unfold maxLen; omega) (by have : (n + m) * nb ≤ 100001 * 64 := Nat.mul_le_mul (by omega) hnb
                                    omega) hbase
  have h4 := append_block hE2 w o.type base n v v' w' xs hown ad m c news hl hx h1 hb hm hrun
  unfold Oper.wp
  simp [execOp, ho, resolve, invoke, builtin, hs, hy, hrun, Result.andThen]
  exact h v' w' h2 h3 ((Below.refl base w).grown h3 hbase (fun k hk => (hown.lt k hk).1)) h4

theorem OutW.shapeAny {base : Nat} {F : Nat → Prop} {w : World} {v : Value} {ws : List (Int × List Int)} (h : OutW base F w v ws) : ∃ ao cap, v = .slice ao ws.length cap := by
  obtain ⟨_, _, xs, ho, _⟩ := h
  exact owns_shape_r ho

theorem IArg.grownAny {w w' : World} {b off len cap : Nat} {row : Option Nat} {zs : List Int} (h : IArg w (some ⟨b, off, none⟩) len cap zs) (hg : w.grownBy w' row) (hne : row ≠ some b) : IArg w' (some ⟨b, off, none⟩) len cap zs := by
  refine ⟨⟨h.1.1, h.1.2.1, ?_⟩, h.2⟩
  rcases h.1.2.2 with h0 | ⟨b', o', he, hc⟩
  · exact Or.inl h0
  · simp only [Option.some.injEq, Addr.mk.injEq, and_true] at he
    obtain ⟨rfl, rfl⟩ := he
    exact Or.inr ⟨b, off, rfl, fun j x hj => hg.cell (hc j x hj) (fun e => hne e.symm)⟩

/-- A row that has grown lies in none of the blocks of F, if it did not before. -/
theorem not_later {base : Nat} {F : Nat → Prop} {w wx : World} {v v' : Value} (hF : ∀ k, F k → base ≤ k ∧ k < w.heap.size) (h : ∀ b, v.ownBlock = some b → ¬ F b) (hs : w.heap.size ≤ wx.heap.size) (hv : v'.ownBlock = v.ownBlock ∨ v'.ownBlock = some wx.heap.size) : ∀ b, v'.ownBlock = some b → ¬ F b := fun b hb hFb => by
  rcases hv with e | e
  · exact h b (e ▸ hb) hFb
  · rw [e] at hb
    simp at hb
    have := (hF b hFb).2
    omega

theorem own_apart {F : Nat → Prop} {u v : Value} (h : ∀ b, u.ownBlock = some b → ¬ F b) (k : ∀ b, v.ownBlock = some b → F b) : u.ownBlock = none ∨ u.ownBlock ≠ v.ownBlock := by
  cases hu : u.ownBlock with
  | none => exact Or.inl rfl
  | some b => exact Or.inr (fun e => h b hu (k b e.symm))

theorem datum_of {lo : Nat} {w : World} {db off dc : Nat} {zs : List Int} (h : lo ≤ db) (hA : Arg w (some ⟨db, off, none⟩) 64 dc zs) : Datum lo w (.slice (some ⟨db, off, none⟩) 64 dc) zs := by
  refine Or.inr ⟨db, off, dc, rfl, ⟨h, ?_⟩, hA⟩
  obtain ⟨b', o', he, hc⟩ := hA.1.2.2.2.resolve_left (by decide)
  simp only [Option.some.injEq, Addr.mk.injEq, and_true] at he
  obtain ⟨rfl, rfl⟩ := he
  exact World.block_lt_of_cell? _ _ (hc 0 (by decide))

theorem us_take {zs fs : List Int} {i : Nat} (hi : i < 3) : [under0 zs fs, under1 zs fs, under2 zs fs].take (i + 1) = [under0 zs fs, under1 zs fs, under2 zs fs].take i ++ [underAt zs fs i] := by
  match i, hi with
  | 0, _ => rfl
  | 1, _ => rfl
  | 2, _ => rfl

set_option maxRecDepth 100000 in
set_option maxHeartbeats 12800000 in
theorem RPlanOk_any (ao bo : Option Addr) (len cap n c : Nat) (zs fs : List Int) (w : World) (hA : IArg w ao len cap zs) (hF : IArg w bo n c fs) (hE : planErr zs fs = 0) :
    Calls Try.prog 12 #[.slice ao len cap, .slice bo n c] w (RPlanEnd w zs fs) := by
  obtain ⟨hp, hf⟩ := plan_ok hE
  obtain ⟨hn, hd, _⟩ := fresh_ok hf
  rw [hF.len] at hn
  have hl : zs.length ≤ 96 := by unfold ptrsOk at hp; rw [Bool.and_eq_true, decide_eq_true_eq] at hp; exact hp.1
  have hal : apartL zs = true := by unfold ptrsOk at hp; rw [Bool.and_eq_true] at hp; exact hp.2
  have hn5 : needP zs ≤ 5 := by rw [← usedN_need]; exact usedN_le _ 5
  have HN : Hid (∀ W, Below w.heap.size w W → Calls Try.prog 8 #[.slice ao len cap] W fun e w' => e = .returned (.bool true) ∧ Below W.heap.size W w') := Lib.hid (fun W hW => by
    have h := RPointers_any ao len cap zs W (hA.later hW)
    rw [hp] at h
    exact h)
  have HD := Lib.hid (fun W (hW : Below w.heap.size w W) => Rneed_any ao len cap zs W (hA.later hW))
  have HR : Hid (∀ W, Below w.heap.size w W → Calls Try.prog 26 #[.slice bo n c, .int .i64 (needP zs : Int), .slice ao len cap] W fun e w' => e = .returned (.int .i64 0) ∧ Below W.heap.size W w') := Lib.hid (fun W (hW : Below w.heap.size w W) => by
    have h := RFresh_any bo ao n c len cap fs zs (needP zs) W (hF.later hW) (hA.later hW) (by have := hA.len; omega) (by omega)
    rw [hf] at h
    exact h)
  have HAT := Lib.hid (fun W (i : Nat) (hW : Below w.heap.size w W) => Rat_any ao len cap zs i W (hA.later hW))
  have HPA := Lib.hid (fun W (s m : Nat) (hW : Below w.heap.size w W) (hs : s ≤ 1000) (hm : m ≤ 1000) => Rpart_any ao len cap zs s m W (hA.later hW) hs hm)
  have H62 := Lib.hid (some62 hl)
  have HSM := Lib.hid (part_small hal)
  have HFK := Lib.hid (fun k (hk : k < needP zs) => at_fresh hF hn hd hk)
  have HNE := Lib.hid (need_eq zs)
  have HUBX : Hid (∀ z ∈ [under0 zs fs, under1 zs fs, under2 zs fs], 0 ≤ z ∧ z ≤ 65535) := Lib.hid (fun z hz => by
    have hn' : needP zs ≤ fs.length := by rw [hF.len]; exact hn
    have h := own_small hn' hd z (by unfold ownP; simp only [List.mem_cons, List.mem_nil_iff, or_false] at hz ⊢; rcases hz with rfl | rfl | rfl <;> simp)
    rcases h with rfl | h
    · decide
    · unfold dataP at h; simp only [decide_eq_true_eq] at h; omega)
  have HWP := Lib.hid (writes_parts zs fs)
  unfold RPlanEnd planNode planWs
  rw [hE, if_pos rfl, if_pos rfl]
  have HT := Lib.hid (made_node w)
  have HB0 : Hid (Below w.heap.size w (w.alloc (.cells zeroN 32))) := Lib.hid ((Below.refl _ _).alloc (Nat.le_refl _) _)
  unfold zeroN nodeCs at HT HB0
  have HNN := Lib.hid hn
  have hcap := hF.2.2.2
  have HD0 : Hid (∀ W, Below w.heap.size w W → Calls Try.prog 27 #[.slice ao len cap, .int .i64 0] W fun e w' => e = .returned (.int .i64 (zs.getD 0 0)) ∧ W = w') := Lib.hid (fun W hW => HAT.out W 0 hW)
  have HD1 : Hid (∀ W, Below w.heap.size w W → Calls Try.prog 27 #[.slice ao len cap, .int .i64 1] W fun e w' => e = .returned (.int .i64 (zs.getD 1 0)) ∧ W = w') := Lib.hid (fun W hW => HAT.out W 1 hW)
  have HD2 : Hid (∀ W, Below w.heap.size w W → Calls Try.prog 27 #[.slice ao len cap, .int .i64 2] W fun e w' => e = .returned (.int .i64 (zs.getD 2 0)) ∧ W = w') := Lib.hid (fun W hW => HAT.out W 2 hW)
  have HD3 : Hid (∀ W, Below w.heap.size w W → Calls Try.prog 27 #[.slice ao len cap, .int .i64 3] W fun e w' => e = .returned (.int .i64 (zs.getD 3 0)) ∧ W = w') := Lib.hid (fun W hW => HAT.out W 3 hW)
  generalize zs.getD 0 0 = x0 at *
  generalize zs.getD 1 0 = x1 at *
  generalize zs.getD 2 0 = x2 at *
  generalize zs.getD 3 0 = x3 at *
  clear hA hF hE hp hf hd hl hal hn5 hn HAT
  go_enter Try.func12, Try.ntmps12
  go_wp2_with (first
    | (go_at_call 8; refine (HN.out _ HB0.out).mono ?_; rintro e w2 ⟨rfl, hb⟩; have HB2 := Lib.hid (HB0.out.trans (hb.mono HB0.out.size)); have HB12 := Lib.hid hb; clear hb)
    | (go_at_call 10; refine (HD.out _ HB2.out).mono ?_; rintro e w3 ⟨rfl, hb⟩; have HB3 := Lib.hid (HB2.out.trans (hb.mono HB2.out.size)); have HB13 := Lib.hid (HB12.out.trans (hb.mono HB12.out.size)); clear hb)
    | (go_at_call 26; refine (HR.out _ HB3.out).mono ?_; rintro e w4 ⟨rfl, hb⟩; have HB4 := Lib.hid (HB3.out.trans (hb.mono HB3.out.size)); have HB14 := Lib.hid (HB13.out.trans (hb.mono HB13.out.size)); clear hb))
  have HG0 : Hid (w.heap.size < w4.heap.size) := Lib.hid (by have := HB14.out.size; rw [World.size_alloc] at this; omega)
  have HTH : Hid (w4.there w.heap.size 0 12) := Lib.hid (there_later HB14.out HT.out.1 (by simp))
  have HN0 : Hid (OwnV w.heap.size w w4.heap.size (nodeCs 1 0 0 0 0 0 0) (w4.alloc (.cells (nodeCs 1 0 0 0 0 0 0).toArray 32))) := Lib.hid (ownV_at _ HB4.out)
  go_loopw [9] (fun iv wr => ∃ i : Nat, iv = .int .i64 (i : Int) ∧ i ≤ 4 ∧ Hid (OwnV w.heap.size w w4.heap.size (nodeCs 1 (if 0 < i then x0 else 0) (if 1 < i then x1 else 0) (if 2 < i then x2 else 0) (if 3 < i then x3 else 0) 0 0) wr) ∧ Hid (Below w4.heap.size w4 wr)) (fun iv _ => 4 - (intOf iv).toNat)
  case atStart => exact ⟨0, rfl, by decide, HN0, Lib.hid ((Below.refl _ _).alloc (Nat.le_refl _) _)⟩
  case round =>
    obtain ⟨i, rfl, hi, HO, HB⟩ := hrel
    clear HN0
    obtain ⟨w5, hw5⟩ : ∃ w5, w5 = wr := ⟨_, rfl⟩
    subst hw5
    by_cases hlt : i < 4
    · rcases (show i = 0 ∨ i = 1 ∨ i = 2 ∨ i = 3 by omega) with rfl | rfl | rfl | rfl
      case inl =>
        have c1 : w5.cell? ⟨w4.heap.size, 4, none⟩ = some (.int .i64 0) := HO.out.1 4 _ rfl
        have c2 : w5.frozen? ⟨w4.heap.size, 4, none⟩ = false := HO.out.2.1 4
        go_wp2_with (go_at_call 27; refine (HD0.out _ HO.out.2.2.2).mono ?_; rintro e w6 ⟨rfl, rfl⟩)
        go_roundw
        case rel => exact ⟨1, rfl, by decide, Lib.hid (HO.out.store (k := 4) (y := .int .i64 x0) (by unfold nodeCs; simp)), Lib.hid (HB.out.setCell (p := ⟨w4.heap.size, 4, none⟩) (Nat.le_refl _) _)⟩
        case measure => simp [intOf]
      case inr.inl =>
        have c1 : w5.cell? ⟨w4.heap.size, 5, none⟩ = some (.int .i64 0) := HO.out.1 5 _ rfl
        have c2 : w5.frozen? ⟨w4.heap.size, 5, none⟩ = false := HO.out.2.1 5
        go_wp2_with (go_at_call 27; refine (HD1.out _ HO.out.2.2.2).mono ?_; rintro e w6 ⟨rfl, rfl⟩)
        go_roundw
        case rel => exact ⟨2, rfl, by decide, Lib.hid (HO.out.store (k := 5) (y := .int .i64 x1) (by unfold nodeCs; simp)), Lib.hid (HB.out.setCell (p := ⟨w4.heap.size, 5, none⟩) (Nat.le_refl _) _)⟩
        case measure => simp [intOf]
      case inr.inr.inl =>
        have c1 : w5.cell? ⟨w4.heap.size, 6, none⟩ = some (.int .i64 0) := HO.out.1 6 _ rfl
        have c2 : w5.frozen? ⟨w4.heap.size, 6, none⟩ = false := HO.out.2.1 6
        go_wp2_with (go_at_call 27; refine (HD2.out _ HO.out.2.2.2).mono ?_; rintro e w6 ⟨rfl, rfl⟩)
        go_roundw
        case rel => exact ⟨3, rfl, by decide, Lib.hid (HO.out.store (k := 6) (y := .int .i64 x2) (by unfold nodeCs; simp)), Lib.hid (HB.out.setCell (p := ⟨w4.heap.size, 6, none⟩) (Nat.le_refl _) _)⟩
        case measure => simp [intOf]
      case inr.inr.inr =>
        have c1 : w5.cell? ⟨w4.heap.size, 7, none⟩ = some (.int .i64 0) := HO.out.1 7 _ rfl
        have c2 : w5.frozen? ⟨w4.heap.size, 7, none⟩ = false := HO.out.2.1 7
        go_wp2_with (go_at_call 27; refine (HD3.out _ HO.out.2.2.2).mono ?_; rintro e w6 ⟨rfl, rfl⟩)
        go_roundw
        case rel => exact ⟨4, rfl, by decide, Lib.hid (HO.out.store (k := 7) (y := .int .i64 x3) (by unfold nodeCs; simp)), Lib.hid (HB.out.setCell (p := ⟨w4.heap.size, 7, none⟩) (Nat.le_refl _) _)⟩
        case measure => simp [intOf]
    · obtain rfl : i = 4 := by omega
      have HND : Hid (OwnV w.heap.size w w4.heap.size (nodeCs 1 x0 x1 x2 x3 0 0) w5) := Lib.hid HO.out
      clear HO hlt hi
      have HP4 : Hid (∀ W, Below w.heap.size w W → Calls Try.prog 22 #[.slice ao len cap, .int .i64 4, .int .i64 30] W (PartDone W zs 4 30)) := Lib.hid (fun W hW => HPA.out W 4 30 hW (by decide) (by decide))
      have HP34 : Hid (∀ W, Below w.heap.size w W → Calls Try.prog 22 #[.slice ao len cap, .int .i64 34, .int .i64 62] W (PartDone W zs 34 62)) := Lib.hid (fun W hW => HPA.out W 34 62 hW (by decide) (by decide))
      have HPL : Hid (∀ W i, Below w.heap.size w W → i < 3 → Calls Try.prog 22 #[.slice ao len cap, .int .i64 ((34 + 30 * i : Nat) : Int), .int .i64 30] W (PartDone W zs (34 + 30 * i) 30)) := Lib.hid (fun W i hW hi => HPA.out W (34 + 30 * i) 30 hW (by omega) (by decide))
      have HB5 : Hid (Below w.heap.size w w5) := Lib.hid HND.out.2.2.2
      have HG45 : Hid (w4.heap.size < w5.heap.size) := Lib.hid (World.block_lt_of_cell? _ _ (HND.out.1 0 _ rfl))
      have HO5 : Hid (OutW w5.heap.size (fun k => k = w5.heap.size) (w5.alloc (.cells #[] 64)) (.slice (some ⟨w5.heap.size, 0, none⟩) 0 0) []) := Lib.hid ⟨fun k hk => by subst hk; simp, fun b hb => by simp [Value.ownBlock] at hb; exact hb.symm, [], World.ownsRow_made (base := w5.heap.size) (e := 64) (size := 2) w5 #[] 0 (Nat.le_refl _) (by decide) rfl, fun j a zs h => by simp at h⟩
      have HB5a : Hid (Below w5.heap.size w5 (w5.alloc (.cells #[] 64))) := Lib.hid ((Below.refl _ _).alloc (Nat.le_refl _) _)
      go_wp2_with fail
      refine (HP4.out _ (HB5.out.trans (HB5a.out.mono HB5.out.size))).mono ?_
      rintro e w6 ⟨v6, c6, rfl, ⟨hp6, hf6⟩, hb6⟩
      have HP6 := Lib.hid hp6
      have HF6 : Hid (∃ g o, v6 = some ⟨g, o, none⟩ ∧ w5.heap.size ≤ g) := Lib.hid (by
        rcases hf6 with h | ⟨g, o, e, hg⟩
        · have := congrArg List.length h
          rw [partP_length] at this
          simp at this
        · exact ⟨g, o, e, by rw [World.size_alloc] at hg; omega⟩)
      have HO6 := Lib.hid (HO5.out.later hb6)
      have HB56 : Hid (Below w5.heap.size w5 w6) := Lib.hid (HB5a.out.trans (hb6.mono HB5a.out.size))
      have HN6 : Hid (OwnV w.heap.size w w4.heap.size (nodeCs 1 x0 x1 x2 x3 0 0) w6) := Lib.hid (HND.out.below HB56.out HG45.out HB5.out.size)
      clear hp6 hf6 hb6 HO5 HB5a HND HP4
      have HS40 : Hid (singleP zs fs = whenB (someP zs 4 30) (fs.getD 0 0)) := Lib.hid rfl
      have HD40 : Hid (doubleP zs fs = whenB (doubleB zs) (fs.getD (someP zs 4 30).toNat 0)) := Lib.hid rfl
      have HUA := Lib.hid (fun i (hi : i < 3) => underAt_eq zs fs hi)
      have HUB := HUBX
      cases hS4 : someP zs 4 30
      case' true =>
        rw [hS4] at HNE HWP HS40 HD40 HUA
        obtain ⟨b, off, rfl, hc0, hlo, hhi⟩ := HFK.out 0 (by rw [HNE.out]; simp; omega)
        have HS4 : Hid (singleP zs fs = fs.getD 0 0) := Lib.hid HS40.out
        rw [HS4.out] at HWP
        have HI7 : Hid (I64 (fs.getD 0 0)) := Lib.hid ⟨by omega, by omega⟩
        have HBL7 : Hid (b < w5.heap.size) := Lib.hid (by have h1 := World.block_lt_of_cell? _ _ hc0; have h2 := HB5.out.size; simp at h1; omega)
        have HBG : Hid (b ≠ w4.heap.size) := Lib.hid (by have h1 := World.block_lt_of_cell? _ _ hc0; have h2 := HB4.out.size; simp at h1; omega)
        rw [Nat.add_zero] at hc0
        generalize fs.getD 0 0 = f0 at *
        have hc6 : w6.cell? ⟨b, off, none⟩ = some (.int .i64 f0) := by rw [HB56.out.cell (p := ⟨b, off, none⟩) HBL7.out]; exact cell_later HB5.out hc0
        have n8 : w6.cell? ⟨w4.heap.size, 8, none⟩ = some (.int .i64 0) := HN6.out.1 8 _ rfl
        have m8 : w6.frozen? ⟨w4.heap.size, 8, none⟩ = false := HN6.out.2.1 8
        have hn0 : 0 < n := by have h1 := HNN.out; have h2 := HNE.out; simp at h2; omega
        have n0 : (0 : Int) < (n : Int) := by omega
        have n1 : (1 : Int) ≤ (n : Int) := by omega
        have HN7x : Hid (OwnV w.heap.size w w4.heap.size (nodeCs 1 x0 x1 x2 x3 f0 0) (w6.setCell ⟨w4.heap.size, 8, none⟩ (.int .i64 f0))) := Lib.hid (HN6.out.store (k := 8) (y := .int .i64 f0) (by unfold nodeCs; simp))
        have HK67 : Hid (Keeps w4.heap.size w6 (w6.setCell ⟨w4.heap.size, 8, none⟩ (.int .i64 f0))) := Lib.hid (Keeps.set w6 ⟨w4.heap.size, 8, none⟩ _)
        have HC7x : Hid ((w6.setCell ⟨w4.heap.size, 8, none⟩ (.int .i64 f0)).cell? ⟨b, off, none⟩ = some (.int .i64 f0)) := Lib.hid (by rw [HK67.out.cell (p := ⟨b, off, none⟩) HBG.out]; exact hc6)
        obtain ⟨g6, o6, rfl, hg6⟩ := HF6.out
        have HP7x : Hid (IArg (w6.setCell ⟨w4.heap.size, 8, none⟩ (.int .i64 f0)) (some ⟨g6, o6, none⟩) 30 c6 (partP zs 4 30)) := Lib.hid (HK67.out.iarg HP6.out (by have := HG45.out; omega))
        have HO7x := Lib.hid (HO6.out.keeps HK67.out HG45.out)
        have HB47x : Hid (Below w4.heap.size w4 (w6.setCell ⟨w4.heap.size, 8, none⟩ (.int .i64 f0))) := Lib.hid ((HB.out.trans (HB56.out.mono (Nat.le_of_lt HG45.out))).setCell (p := ⟨w4.heap.size, 8, none⟩) (Nat.le_refl _) _)
        have HSZ7x : Hid (w5.heap.size ≤ (w6.setCell ⟨w4.heap.size, 8, none⟩ (.int .i64 f0)).heap.size) := Lib.hid (by rw [HK67.out.1]; exact HB56.out.size)
        have HS4' := Lib.hid hS4
        clear hS4 hc0 hlo hhi hg6
        go_wp2_with fail
        generalize w6.setCell ⟨w4.heap.size, 8, none⟩ (.int .i64 f0) = w7 at *
        have HC7 : Hid (w7.drew.cell? ⟨b, off, none⟩ = some (.int .i64 f0)) := Lib.hid HC7x.out
        have HSZ7 := HSZ7x
        have HLEN7 : Hid (0 ≤ 5) := Lib.hid (by decide)
        have HP647 : Hid ((pageB (partP zs 4 30)).length = 64) := Lib.hid (page_sealed (by rw [partP_length]; decide)).1
        have cPG := Rpage_any (some ⟨g6, o6, none⟩) 30 c6 (partP zs 4 30) w7.drew HP7x.out.drew (by decide) (HSM.out 4 30)
        obtain ⟨hF7, hvF7, xs7, ho7, hx7⟩ := HO7x.out
        have HO7 := Lib.hid ho7
        have HX7 := Lib.hid hx7
        have HF7 := Lib.hid hF7
        have HVF7 := Lib.hid hvF7
        clear hF7 hvF7 ho7 hx7
        refine wp_region_held_drew (S := fun W => W.cell? ⟨b, off, none⟩ = some (.int .i64 f0)) (by kernel_rfl) HC7.out (fun hHeld => ?_)
        refine wpAnyH_take (i := 0) (oi := ⟨some 54, _, _, _, _, _⟩) (v := .slice (some ⟨w5.heap.size, 0, none⟩) 0 0) rfl (by kernel_rfl) (by kernel_rfl) (by kernel_rfl) (fun _ _ _ h => h) (Or.inl ⟨by kernel_rfl, fun w _ => rfl⟩) (by assumption) ?_
        try simp only [Act.put, List.setIfInBounds_toArray, List.set_cons_zero, List.set_cons_succ]
        refine wpAnyH_take (i := 1) (oi := ⟨some 55, _, _, _, _, _⟩) (v := .slice (some ⟨b, off, none⟩) n c) rfl (by kernel_rfl) (by kernel_rfl) (by kernel_rfl) (fun _ _ _ h => h) (Or.inl ⟨by kernel_rfl, fun w _ => rfl⟩) (by assumption) ?_
        try simp only [Act.put, List.setIfInBounds_toArray, List.set_cons_zero, List.set_cons_succ]
        refine wpAnyH_take (i := 2) (oi := ⟨some 56, _, _, _, _, _⟩) (v := .pointer (some ⟨b, off, none⟩)) rfl (by kernel_rfl) (by kernel_rfl) (by kernel_rfl) (fun _ _ _ h => h) (Or.inl ⟨by kernel_rfl, by intro w _; go_simp⟩) (by assumption) ?_
        try simp only [Act.put, List.setIfInBounds_toArray, List.set_cons_zero, List.set_cons_succ]
        refine wpAnyH_take (i := 3) (oi := ⟨some 57, _, _, _, _, _⟩) (v := .int .i64 f0) rfl (by kernel_rfl) (by kernel_rfl) (by kernel_rfl) (fun _ _ _ h => h) (Or.inl ⟨by kernel_rfl, by intro w hSw; (try dsimp only at hSw); go_simp⟩) (by assumption) ?_
        try simp only [Act.put, List.setIfInBounds_toArray, List.set_cons_zero, List.set_cons_succ]
        refine wpAnyH_take (i := 4) (oi := ⟨some 58, _, _, _, _, _⟩) (v := .slice (some ⟨g6, o6, none⟩) 30 c6) rfl (by kernel_rfl) (by kernel_rfl) (by kernel_rfl) (fun _ _ _ h => h) (Or.inl ⟨by kernel_rfl, fun w _ => rfl⟩) (by assumption) ?_
        try simp only [Act.put, List.setIfInBounds_toArray, List.set_cons_zero, List.set_cons_succ]
        refine wpAnyH_ready (rs := [5]) (by kernel_rfl) (by simp) ?_
        refine AllReadyH.cons (o := ⟨some 59, _, _, _, _, _⟩) rfl (fun K hK => ?_) AllReadyH.nil
        go_simp
        go_at_call 28
        refine (cPG).mono ?_
        rintro e p7 ⟨q7, rfl, hf, hb⟩
        obtain ⟨da, dc, rfl, hA5, hf5⟩ := hf
        obtain ⟨db, doff, rfl, hdb, _⟩ := hf5.resolve_left (by intro h; have := congrArg List.length h; rw [HP647.out] at this; simp at this)
        rw [HP647.out] at hA5
        rw [HP647.out]
        have HA7 := Lib.hid hA5
        have HDB7 := Lib.hid hdb
        have HBP7 : Hid (Below w7.heap.size w7 p7) := Lib.hid ((Below.refl _ _).drew.trans hb)
        clear hA5 hf5 hdb hb
        have HLT7 : Hid (db < p7.heap.size) := Lib.hid (by obtain ⟨b', o', he, hc⟩ := HA7.out.1.2.2.2.resolve_left (by decide); simp only [Option.some.injEq, Addr.mk.injEq, and_true] at he; obtain ⟨rfl, rfl⟩ := he; exact World.block_lt_of_cell? _ _ (hc 0 (by decide)))
        try (go_wp2_with fail)
        refine hK.out _ _ ?_ (fun hHeld2 => ?_)
        · exact cell_later HBP7.out HC7.out
        clear hK K
        try simp only [Act.put, List.setIfInBounds_toArray, List.set_cons_zero, List.set_cons_succ]
        refine wpAnyH_take (i := 6) (oi := ⟨some 60, _, _, _, _, _⟩) (v := .agg #[.int .i64 f0, .slice (some ⟨db, doff, none⟩) 64 dc]) rfl (by kernel_rfl) (by kernel_rfl) (by kernel_rfl) (fun _ _ _ h => h) (Or.inl ⟨by kernel_rfl, by intro w _; go_simp⟩) (by assumption) ?_
        try simp only [Act.put, List.setIfInBounds_toArray, List.set_cons_zero, List.set_cons_succ]
        refine wpAnyH_ready (rs := [7]) (by kernel_rfl) (by simp) ?_
        refine AllReadyH.cons (o := ⟨some 61, _, _, _, _, _⟩) rfl (fun K hK => ?_) AllReadyH.nil
        go_simp
        refine hK.out _ _ ?_ (fun hHeld3 => ?_)
        · exact cell_later ((Below.refl _ _).alloc (Nat.le_refl _) _) hHeld2
        clear hK K
        try simp only [Act.put, List.setIfInBounds_toArray, List.set_cons_zero, List.set_cons_succ]
        refine wpAnyH_ready (rs := [8]) (by kernel_rfl) (by simp) ?_
        refine AllReadyH.cons (o := ⟨some 62, _, _, _, _, _⟩) rfl (fun K hK => ?_) AllReadyH.nil
        rw [if_pos (by rfl)]
        refine op_append_at elemW (.tmp 54) (.tmp 61) rfl w5.heap.size 0 (.slice (some ⟨w5.heap.size, 0, none⟩) 0 0) xs7 rfl ((owns_later_r HO7.out HBP7.out).alloc _) ⟨p7.heap.size, 0, none⟩ 1 1 [.int .i64 f0, .slice (some ⟨db, doff, none⟩) 64 dc] rfl (by decide) rfl (news_r p7 [.int .i64 f0, .slice (some ⟨db, doff, none⟩) 64 dc] _) (by intro q hq; simp only [List.mem_cons, List.mem_nil_iff, or_false] at hq; rcases hq with rfl | rfl <;> rfl) (by have := HLEN7.out; omega) (by have h1 := HBP7.out.size; have h2 := HSZ7.out; simp; omega) ?_
        intro z7 x7 hown hg hb hv
        have HOUT7 := Lib.hid (OutW.snoc (ws := []) HF7.out HVF7.out HO7.out HX7.out HBP7.out HSZ7.out HI7.out (Or.inr ⟨db, doff, dc, rfl, ⟨by have h := HDB7.out; exact h, HLT7.out⟩, HA7.out⟩) hown hg hv)
        have HB7 : Hid (Below w5.heap.size w7 x7) := Lib.hid (((HBP7.out.mono HSZ7.out).alloc (by have h1 := HBP7.out.size; have h2 := HSZ7.out; omega) _).trans hb)
        have HG7 := Lib.hid hg
        have HHB7 := Lib.hid hb
        have HVV7 := Lib.hid hv
        clear hown hg hb hv
        refine hK.out _ _ ?_ (fun hHeld4 => ?_)
        · exact by rw [HB7.out.cell (p := ⟨b, off, none⟩) HBL7.out]; exact HC7.out
        clear hK K
        try simp only [Act.put, List.setIfInBounds_toArray, List.set_cons_zero, List.set_cons_succ]
        refine wpAnyH_take (i := 9) (oi := ⟨some 10, _, _, _, _, _⟩) (v := z7) rfl (by kernel_rfl) (by kernel_rfl) (by kernel_rfl) (fun _ _ _ h => h) (Or.inl ⟨by kernel_rfl, fun w _ => rfl⟩) (by assumption) ?_
        try simp only [Act.put, List.setIfInBounds_toArray, List.set_cons_zero, List.set_cons_succ]
        refine wpAnyH_done (by kernel_rfl) ?_ _
        obtain ⟨g7, c7, hz7⟩ := HOUT7.out.shape (by simp)
        rw [List.nil_append] at HOUT7 hz7
        obtain rfl : z7 = .slice (some ⟨g7, 0, none⟩) 1 c7 := hz7
        have HO9 := HOUT7
        have HN9 := Lib.hid (HN7x.out.below HB7.out HG45.out HB5.out.size)
        have HB9 := Lib.hid HN9.out.2.2.2
        have HSZ9 : Hid (w5.heap.size ≤ x7.heap.size) := Lib.hid (Nat.le_trans HSZ7.out HB7.out.size)
        have HB47 : Hid (Below w4.heap.size w4 w7) := HB47x
        have HB49 : Hid (Below w4.heap.size w4 x7) := Lib.hid (HB47.out.trans (HB7.out.mono (Nat.le_of_lt HG45.out)))
        obtain ⟨s4, hs4⟩ : ∃ s4, s4 = singleP zs fs := ⟨_, rfl⟩
        have HS9 : Hid (singleP zs fs = f0) := HS4
        clear HC7 HC7x HN7x HK67 HP7x HO7x HO7 HX7 HF7 HVF7 HG7 HHB7 HVV7 HOUT7 hs4 cPG HA7 HDB7 HLT7 HBP7 HP6 HF6 HO6 HN6 HB56 HB47x HB47 hHeld hHeld2 hHeld3 hHeld4 HSZ7x HLEN7 HP647 hc6 n8 m8 HSZ7 HB7 HI7
        go_wp2_with fail
        refine (HP34.out _ HB9.out).mono ?_
        rintro e w10 ⟨v10, c10, rfl, -, hb10⟩
        rw [H62.out]
        have HSZ10 : Hid (w5.heap.size ≤ w10.heap.size) := Lib.hid (Nat.le_trans HSZ9.out hb10.size)
        have HO10 := Lib.hid (HO9.out.later hb10)
        have HN10 := Lib.hid (HN9.out.below (hb10.mono HSZ9.out) HG45.out HB5.out.size)
        have HB410 := Lib.hid (HB49.out.trans (hb10.mono (by have h1 := HG45.out; have h2 := HSZ9.out; omega)))
        have HTH10 : Hid (w10.there w.heap.size 0 12) := Lib.hid (there_later HB410.out HTH.out HG0.out)
        have HG05 : Hid (w.heap.size < w5.heap.size) := Lib.hid (by have h1 := HG0.out; have h2 := HG45.out; omega)
        clear hb10 HO9 HN9 HB49
        cases hDB : doubleB zs
        case' false =>
          rw [hDB] at HNE HWP HD40
          have HD9 : Hid (doubleP zs fs = 0) := Lib.hid HD40.out
          have HWQ : Hid (writesP zs fs = [(f0, pageB (partP zs 4 30))]) := Lib.hid (by
            have h := HWP.out
            rw [dataW_none hDB] at h
            exact h)
          clear hDB
          go_wp2_with (first
            | (refine wp_load_node rfl (.tmp 8) rfl w4.heap.size rfl 1 x0 x1 x2 x3 f0 0 (own_range HN10.out) ?_)
            | (refine wpList_store_mid rfl 32 (.tmp 4) (.tmp 72) rfl w.heap.size 0 (nodeCs 1 x0 x1 x2 x3 f0 0).toArray rfl rfl HTH10.out (iNodeA 1 x0 x1 x2 x3 f0 0) (all_oneCell_toArray (node_one 1 x0 x1 x2 x3 f0 0)) ?_))
          have HO11 := HO10.out.keeps (Keeps.sets w.heap.size (nodeCs 1 x0 x1 x2 x3 f0 0) 0 w10) HG05.out
          obtain ⟨va, vc, hva, hwa⟩ := HO11.wis (by simp)
          rw [HS9.out, HD9.out, HWQ.out]
          refine bodyPost_ret (v := .tuple #[nodeV 1 x0 x1 x2 x3 f0 0, .slice (some ⟨g7, 0, none⟩) 1 c7, .int .i64 0]) ?_ rfl ⟨va, vc, ?_, hwa, ?_⟩
          · exact node_end rfl _ _ _ _ _ _ _ _ _ _ _ _ _ rfl rfl rfl HTH10.out rfl
          · rw [hva]
          · exact below_cells _ (Nat.le_refl _) _ _ _ HN10.out.2.2.2
        case' true =>
          rw [hDB] at HNE HWP HD40
          have HDB := Lib.hid hDB
          clear hDB
          obtain ⟨b', off', e', hc1, hlo, hhi⟩ := HFK.out 1 (by rw [HNE.out]; simp; omega)
          obtain ⟨rfl, rfl⟩ : b = b' ∧ off = off' := by simpa using e'
          have HD9 : Hid (doubleP zs fs = fs.getD 1 0) := Lib.hid HD40.out
          rw [HD9.out] at HWP
          have HID : Hid (I64 (fs.getD 1 0)) := Lib.hid ⟨by omega, by omega⟩
          generalize fs.getD 1 0 = fd at *
          have hn1 : 1 < n := by have h1 := HNN.out; have h2 := HNE.out; simp at h2; omega
          have q0 : (1 : Int) < (n : Int) := by omega
          have q1 : w10.cell? ⟨b, off + 1, none⟩ = some (.int .i64 fd) := by
            refine cell_later HN10.out.2.2.2 hc1
          have q2 : w10.cell? ⟨w4.heap.size, 9, none⟩ = some (.int .i64 0) := HN10.out.1 9 _ rfl
          have q3 : w10.frozen? ⟨w4.heap.size, 9, none⟩ = false := HN10.out.2.1 9
          have HN11x : Hid (OwnV w.heap.size w w4.heap.size (nodeCs 1 x0 x1 x2 x3 f0 fd) (w10.setCell ⟨w4.heap.size, 9, none⟩ (.int .i64 fd))) := Lib.hid (HN10.out.store (k := 9) (y := .int .i64 fd) (by unfold nodeCs; simp))
          have HK11 : Hid (Keeps w4.heap.size w10 (w10.setCell ⟨w4.heap.size, 9, none⟩ (.int .i64 fd))) := Lib.hid (Keeps.set w10 ⟨w4.heap.size, 9, none⟩ _)
          have HO11x := Lib.hid (HO10.out.keeps HK11.out HG45.out)
          have HB411 : Hid (Below w4.heap.size w4 (w10.setCell ⟨w4.heap.size, 9, none⟩ (.int .i64 fd))) := Lib.hid (HB410.out.setCell (p := ⟨w4.heap.size, 9, none⟩) (Nat.le_refl _) _)
          obtain ⟨hF, hvF, xs, ho, hx⟩ := HO11x.out
          have HF := Lib.hid hF
          have HVF := Lib.hid hvF
          have HOW := Lib.hid ho
          have HX := Lib.hid hx
          have HSZ11 : Hid (w5.heap.size ≤ (w10.setCell ⟨w4.heap.size, 9, none⟩ (.int .i64 fd)).heap.size) := Lib.hid (by rw [HK11.out.1]; exact HSZ10.out)
          have HNW : Hid (∀ (j : Nat) (u : Value), [.int .i64 fd, .slice none 0 0][j]? = some u → ((w10.setCell ⟨w4.heap.size, 9, none⟩ (.int .i64 fd)).alloc (.cells #[.int .i64 fd, .slice none 0 0] 64)).cell? ((⟨w10.heap.size, 0, none⟩ : Addr).add j) = some u) := Lib.hid (by
            have h := news_r (w10.setCell ⟨w4.heap.size, 9, none⟩ (.int .i64 fd)) [.int .i64 fd, .slice none 0 0] 64
            rw [HK11.out.1] at h
            exact h)
          have hg1 : ¬ (w4.heap.size = b) := fun e => HBG.out e.symm
          have hg2 : ¬ (b = w4.heap.size) := HBG.out
          clear hF hvF ho hx hc1 hlo hhi HO10 HN10 HB410 HO11x
          go_wp2_with (at_builtin; refine wp_append_at elemW rfl (.tmp 81) (.tmp 87) rfl w5.heap.size 1 _ xs rfl (HOW.out.alloc _) ⟨w10.heap.size, 0, none⟩ 1 1 [.int .i64 fd, .slice none 0 0] rfl (by decide) rfl HNW.out (by intro q hq; simp only [List.mem_cons, List.mem_nil_iff, or_false] at hq; rcases hq with rfl | rfl <;> rfl) (by decide) (by have h := HSZ11.out; rw [World.size_alloc]; omega) ?_; intro z12 w12 hown hg hb hv; have HO12 := Lib.hid (OutW.snoc (ws := [(f0, pageB (partP zs 4 30))]) HF.out HVF.out HOW.out HX.out (Below.refl _ _) HSZ11.out HID.out (Or.inl ⟨rfl, rfl⟩) hown hg hv); have HB12 := Lib.hid (((Below.refl w5.heap.size (w10.setCell ⟨w4.heap.size, 9, none⟩ (.int .i64 fd))).alloc HSZ11.out _).trans hb); clear hown hg hb hv)
          have hg3 : True := trivial
          clear hg1 hg2 hg3 q0 q1 q2 q3 HK11 HOW HX HF HVF HNW
          generalize w10.setCell ⟨w4.heap.size, 9, none⟩ (.int .i64 fd) = w11 at *
          have HN12 := Lib.hid (HN11x.out.below HB12.out HG45.out HB5.out.size)
          have HB412 := Lib.hid (HB411.out.trans (HB12.out.mono (Nat.le_of_lt HG45.out)))
          have HSZ12 : Hid (w5.heap.size ≤ w12.heap.size) := Lib.hid (Nat.le_trans HSZ11.out HB12.out.size)
          have HBA : Hid (Below w12.heap.size w12 (w12.alloc (.cells #[] 3))) := Lib.hid ((Below.refl _ _).alloc (Nat.le_refl _) _)
          have HU0 : Hid ((w12.alloc (.cells #[] 3)).ownsRow w5.heap.size 3 1 (.slice (some ⟨w12.heap.size, 0, none⟩) 0 0) 0 (ints ([under0 zs fs, under1 zs fs, under2 zs fs].take 0))) := Lib.hid (World.ownsRow_made (base := w5.heap.size) (e := 3) (size := 1) w12 #[] 0 HSZ12.out (by decide) rfl)
          have HO13 := Lib.hid (HO12.out.later HBA.out)
          have HNF0 : Hid (∀ b, (Value.slice (some ⟨w12.heap.size, 0, none⟩) 0 0).ownBlock = some b → ¬ moreF _ w11.heap.size w12.heap.size b) := Lib.hid (fun b hb hF => by have := (HO12.out.1 b hF).2; simp [Value.ownBlock] at hb; omega)
          obtain ⟨oa, oc, hz12⟩ := HO12.out.shapeAny
          obtain rfl : z12 = .slice oa 2 oc := hz12
          have hcap' := HNN.out
          clear HO12 HN11x HB411 HB12 HSZ11 hcap'
          go_loopw [10, 11, 15, 16] (fun ov kv uv fv wr => ∃ (i : Nat) (F : Nat → Prop) (k : Nat), fv = .int .i64 ((34 + 30 * i : Nat) : Int) ∧ i ≤ 3 ∧ kv = .int .i64 (k : Int) ∧ Hid (k = 1 + 1 + underC zs i) ∧ (∃ oa on oc, ov = .slice oa on oc ∧ Hid (on = ([(f0, pageB (partP zs 4 30))] ++ (fd, []) :: dataW zs fs i).length) ∧ Hid (OutW w5.heap.size F wr (.slice oa on oc) ([(f0, pageB (partP zs 4 30))] ++ (fd, []) :: dataW zs fs i))) ∧ (∃ ua uc, uv = .slice ua i uc ∧ Hid (wr.ownsRow w5.heap.size 3 1 (.slice ua i uc) i (ints ([under0 zs fs, under1 zs fs, under2 zs fs].take i))) ∧ Hid (∀ b, (Value.slice ua i uc).ownBlock = some b → ¬ F b)) ∧ Hid (Below w5.heap.size w12 wr)) (fun _ _ _ fv _ => 124 - (intOf fv).toNat)
          case atStart => exact ⟨0, _, 2, rfl, by decide, rfl, Lib.hid rfl, ⟨oa, 2, oc, rfl, Lib.hid rfl, HO13⟩, ⟨_, 0, rfl, HU0, HNF0⟩, Lib.hid (HBA.out.mono HSZ12.out)⟩
          case round =>
            obtain ⟨i, F, k, rfl, hi, rfl, HK, ⟨oa, on, oc, rfl, HON, HOR⟩, ⟨ua, uc, rfl, HU, HNF⟩, HBR⟩ := hrel
            clear HO13 HU0 HNF0 HBA
            obtain ⟨w13, hw13⟩ : ∃ w13, w13 = wr := ⟨_, rfl⟩
            subst hw13
            have HN13 := Lib.hid (HN12.out.below HBR.out HG45.out HB5.out.size)
            have HSZ13 : Hid (w5.heap.size ≤ w13.heap.size) := Lib.hid (Nat.le_trans HSZ12.out HBR.out.size)
            have HLD := Lib.hid (dataW_le zs fs i)
            by_cases hlt : i < 3
            · have i1 : ((34 + 30 * i : Nat) : Int) < 96 := by omega
              have cP := HPL.out w13 i HN13.out.2.2.2 hlt
              have HUT : Hid ([under0 zs fs, under1 zs fs, under2 zs fs].take (i + 1) = [under0 zs fs, under1 zs fs, under2 zs fs].take i ++ [underAt zs fs i]) := Lib.hid (us_take hlt)
              have HUE := Lib.hid (HUA.out i hlt)
              have HDW : Hid (dataW zs fs (i + 1) = dataW zs fs i ++ whenW (someP zs (34 + 30 * i) 30) (underAt zs fs i) (partP zs (34 + 30 * i) 30)) := Lib.hid rfl
              have HUC : Hid (underC zs (i + 1) = underC zs i + (someP zs (34 + 30 * i) 30).toNat) := Lib.hid rfl
              have hi2 : i ≤ 2 := by omega
              have HLT3 := Lib.hid hlt
              cases hb : someP zs (34 + 30 * i) 30 with
              | false =>
                rw [hb] at HUE HDW HUC
                have HBB := Lib.hid hb
                have HU1 : Hid (underAt zs fs i = 0) := Lib.hid HUE.out
                rw [HU1.out] at HUT
                clear hb
                go_wp2_with (first
                  | (go_at_call 22; refine cP.mono ?_; rintro e w14 ⟨v14, c14, rfl, -, hb14⟩; rw [HBB.out]; have HB14' := Lib.hid hb14; clear hb14)
                  | (at_builtin; refine wp_append_at elemIR rfl (.tmp 104) (.tmp 105) rfl w5.heap.size i (.slice ua i uc) _ rfl ((owns_later_r HU.out HB14'.out).alloc _) ⟨w14.heap.size, 0, none⟩ 1 1 (ints [0]) rfl (by decide) rfl (news_r w14 (ints [0]) _) (ints_one _) (by omega) (by have h1 := HSZ13.out; have h2 := HB14'.out.size; rw [World.size_alloc]; omega) ?_; intro z15 w15 hown hg hbb hv; obtain ⟨ub, ud, rfl⟩ := owns_shape_r hown; rw [← ints_append, ← HUT.out] at hown; have HU15 := Lib.hid hown; have HO15 := Lib.hid (((HOR.out.later HB14'.out).later ((Below.refl _ _).alloc (Nat.le_refl _) (.cells #[.int .i64 0] 3))).grown hg HNF.out); have HNF15 := Lib.hid (not_later HOR.out.1 HNF.out (by rw [World.size_alloc]; have h2 := HB14'.out.size; omega) hv); have HB15 := Lib.hid (HBR.out.trans (((HB14'.out.mono HSZ13.out).alloc (by have h1 := HSZ13.out; have h2 := HB14'.out.size; omega) _).trans hbb)); clear hown hg hbb hv))
                go_roundw
                case rel => exact ⟨i + 1, F, k, by go_num, by omega, rfl, Lib.hid (by rw [HK.out, HUC.out]; rfl), ⟨oa, on, oc, rfl, Lib.hid (by rw [HON.out, HDW.out]; simp [whenW]), Lib.hid (by rw [HDW.out]; simpa [whenW] using HO15.out)⟩, ⟨ub, ud, rfl, HU15, HNF15⟩, HB15⟩
                case measure => simp [intOf]; omega
              | true =>
                rw [hb] at HUE HDW HUC
                have HBB := Lib.hid hb
                have hkn : k < needP zs := by
                  have h1 := underC_lt hlt hb
                  have h2 := HNE.out
                  have h3 := HK.out
                  simp at h2
                  omega
                obtain ⟨b', off', e', hc1, hlo, hhi⟩ := HFK.out k hkn
                obtain ⟨rfl, rfl⟩ : b = b' ∧ off = off' := by simpa using e'
                have HU1 : Hid (underAt zs fs i = fs.getD k 0) := Lib.hid (by rw [HUE.out, HK.out]; rfl)
                rw [HU1.out] at HUT HDW
                have HI33 : Hid (I64 (fs.getD k 0)) := Lib.hid ⟨by omega, by omega⟩
                generalize fs.getD k 0 = fk at *
                have hkn2 : (k : Int) < (n : Int) := by have h1 := HNN.out; omega
                have hk0 : (0 : Int) ≤ (k : Int) := by omega
                have HHC : Hid (∀ W, Below w.heap.size w W → W.cell? ⟨b, off + k, none⟩ = some (.int .i64 fk)) := Lib.hid (fun W hW => cell_later hW hc1)
                have HP6433 : Hid ((pageB (partP zs (34 + 30 * i) 30)).length = 64) := Lib.hid (page_sealed (by rw [partP_length]; decide)).1
                have HSP := Lib.hid (HSM.out (34 + 30 * i) 30)
                have HKB : Hid (k ≤ 5) := Lib.hid (by have h1 := HK.out; have h2 := underC_le zs i; omega)
                have HLEN33 : Hid (([(f0, pageB (partP zs 4 30))] ++ (fd, []) :: dataW zs fs i).length ≤ 10) := Lib.hid (by have h1 := HLD.out; simp; omega)
                have hkb := HKB.out
                clear hb hkn hc1 hlo hhi HUE
                go_wp2_with (first
                  | (go_at_call 22; refine cP.mono ?_; rintro e w14 ⟨v14, c14, rfl, ⟨hp14, hf14⟩, hb14⟩; rw [HBB.out]; obtain ⟨g14, o14, rfl, hg14⟩ : ∃ g o, v14 = some ⟨g, o, none⟩ ∧ w13.heap.size ≤ g := (hf14.resolve_left (fun h => by have := congrArg List.length h; rw [partP_length] at this; simp at this)); have HB14' := Lib.hid hb14; have HP14 := Lib.hid hp14; have HG14 := Lib.hid hg14; have q4 : w14.cell? ⟨b, off + k, none⟩ = some (.int .i64 fk) := HHC.out w14 (HN13.out.2.2.2.trans (hb14.mono (by have h1 := HSZ13.out; have h2 := HB5.out.size; omega))); clear hb14 hp14 hf14 hg14)
                  | (at_builtin; refine wp_append_at elemIR rfl (.tmp 107) (.tmp 112) rfl w5.heap.size i (.slice ua i uc) _ rfl ((owns_later_r HU.out HB14'.out).alloc _) ⟨w14.heap.size, 0, none⟩ 1 1 (ints [fk]) rfl (by decide) rfl (news_r w14 (ints [fk]) _) (ints_one _) (by omega) (by have h1 := HSZ13.out; have h2 := HB14'.out.size; rw [World.size_alloc]; omega) ?_; intro z15 w15 hown hg hbb hv; obtain ⟨ub, ud, rfl⟩ := owns_shape_r hown; rw [← ints_append, ← HUT.out] at hown; have HU15 := Lib.hid hown; have HO15 := Lib.hid (((HOR.out.later HB14'.out).later ((Below.refl _ _).alloc (Nat.le_refl _) (.cells #[.int .i64 fk] 3))).grown hg HNF.out); have HNF15 := Lib.hid (not_later HOR.out.1 HNF.out (by rw [World.size_alloc]; have h2 := HB14'.out.size; omega) hv); have HB1315 : Hid (Below w5.heap.size w13 w15) := Lib.hid (((HB14'.out.mono HSZ13.out).alloc (by have h1 := HSZ13.out; have h2 := HB14'.out.size; omega) _).trans hbb); have HP15 : Hid (IArg w15 (some ⟨g14, o14, none⟩) 30 c14 (partP zs (34 + 30 * i) 30)) := Lib.hid ((HP14.out.later ((Below.refl _ _).alloc (Nat.le_refl _) (.cells #[.int .i64 fk] 3))).grownAny hg (fun e => by have h1 := (HU.out.lt g14 e).2; have h2 := HG14.out; omega)); clear hown hg hbb hv))
                have HB15 := Lib.hid (HBR.out.trans HB1315.out)
                have HSZ33 : Hid (w5.heap.size ≤ w15.heap.size) := Lib.hid (Nat.le_trans HSZ13.out HB1315.out.size)
                have HN15 := Lib.hid (HN12.out.below HB15.out HG45.out HB5.out.size)
                have HC33 : Hid (w15.drew.cell? ⟨b, off + k, none⟩ = some (.int .i64 fk)) := Lib.hid (HHC.out w15 HN15.out.2.2.2)
                have HBL33 := HBL7
                have cPG := Rpage_any (some ⟨g14, o14, none⟩) 30 c14 (partP zs (34 + 30 * i) 30) w15.drew HP15.out.drew (by decide) HSP.out
                clear q4
                obtain ⟨hF33, hvF33, xs33, ho33, hx33⟩ := HO15.out
                have HO33 := Lib.hid ho33
                have HX33 := Lib.hid hx33
                have HF33 := Lib.hid hF33
                have HVF33 := Lib.hid hvF33
                clear hF33 hvF33 ho33 hx33
                refine wp_region_held_drew (S := fun W => W.cell? ⟨b, off + k, none⟩ = some (.int .i64 fk)) (by kernel_rfl) HC33.out (fun hHeld => ?_)
                refine wpAnyH_take (i := 0) (oi := ⟨some 114, _, _, _, _, _⟩) (v := .slice oa on oc) rfl (by kernel_rfl) (by kernel_rfl) (by kernel_rfl) (fun _ _ _ h => h) (Or.inl ⟨by kernel_rfl, fun w _ => rfl⟩) (by assumption) ?_
                try simp only [Act.put, List.setIfInBounds_toArray, List.set_cons_zero, List.set_cons_succ]
                refine wpAnyH_take (i := 1) (oi := ⟨some 115, _, _, _, _, _⟩) (v := .slice (some ⟨b, off, none⟩) n c) rfl (by kernel_rfl) (by kernel_rfl) (by kernel_rfl) (fun _ _ _ h => h) (Or.inl ⟨by kernel_rfl, fun w _ => rfl⟩) (by assumption) ?_
                try simp only [Act.put, List.setIfInBounds_toArray, List.set_cons_zero, List.set_cons_succ]
                refine wpAnyH_take (i := 2) (oi := ⟨some 116, _, _, _, _, _⟩) (v := .int .i64 (k : Int)) rfl (by kernel_rfl) (by kernel_rfl) (by kernel_rfl) (fun _ _ _ h => h) (Or.inl ⟨by kernel_rfl, fun w _ => rfl⟩) (by assumption) ?_
                try simp only [Act.put, List.setIfInBounds_toArray, List.set_cons_zero, List.set_cons_succ]
                refine wpAnyH_take (i := 3) (oi := ⟨some 117, _, _, _, _, _⟩) (v := .pointer (some ⟨b, off + k, none⟩)) rfl (by kernel_rfl) (by kernel_rfl) (by kernel_rfl) (fun _ _ _ h => h) (Or.inl ⟨by kernel_rfl, by intro w _; go_simp⟩) (by assumption) ?_
                try simp only [Act.put, List.setIfInBounds_toArray, List.set_cons_zero, List.set_cons_succ]
                refine wpAnyH_take (i := 4) (oi := ⟨some 118, _, _, _, _, _⟩) (v := .int .i64 fk) rfl (by kernel_rfl) (by kernel_rfl) (by kernel_rfl) (fun _ _ _ h => h) (Or.inl ⟨by kernel_rfl, by intro w hSw; (try dsimp only at hSw); go_simp⟩) (by assumption) ?_
                try simp only [Act.put, List.setIfInBounds_toArray, List.set_cons_zero, List.set_cons_succ]
                refine wpAnyH_take (i := 5) (oi := ⟨some 119, _, _, _, _, _⟩) (v := .slice (some ⟨g14, o14, none⟩) 30 c14) rfl (by kernel_rfl) (by kernel_rfl) (by kernel_rfl) (fun _ _ _ h => h) (Or.inl ⟨by kernel_rfl, fun w _ => rfl⟩) (by assumption) ?_
                try simp only [Act.put, List.setIfInBounds_toArray, List.set_cons_zero, List.set_cons_succ]
                refine wpAnyH_ready (rs := [6]) (by kernel_rfl) (by simp) ?_
                refine AllReadyH.cons (o := ⟨some 120, _, _, _, _, _⟩) rfl (fun K hK => ?_) AllReadyH.nil
                go_simp
                go_at_call 28
                refine (cPG).mono ?_
                rintro e p33 ⟨q33, rfl, hf, hb⟩
                obtain ⟨da, dc, rfl, hA5, hf5⟩ := hf
                obtain ⟨db, doff, rfl, hdb, _⟩ := hf5.resolve_left (by intro h; have := congrArg List.length h; rw [HP6433.out] at this; simp at this)
                rw [HP6433.out] at hA5
                rw [HP6433.out]
                have HA33 := Lib.hid hA5
                have HDB33 := Lib.hid hdb
                have HBP33 : Hid (Below w15.heap.size w15 p33) := Lib.hid ((Below.refl _ _).drew.trans hb)
                clear hA5 hf5 hdb hb
                have HLT33 : Hid (db < p33.heap.size) := Lib.hid (by obtain ⟨b', o', he, hc⟩ := HA33.out.1.2.2.2.resolve_left (by decide); simp only [Option.some.injEq, Addr.mk.injEq, and_true] at he; obtain ⟨rfl, rfl⟩ := he; exact World.block_lt_of_cell? _ _ (hc 0 (by decide)))
                try (go_wp2_with fail)
                refine hK.out _ _ ?_ (fun hHeld2 => ?_)
                · exact cell_later HBP33.out HC33.out
                clear hK K
                try simp only [Act.put, List.setIfInBounds_toArray, List.set_cons_zero, List.set_cons_succ]
                refine wpAnyH_take (i := 7) (oi := ⟨some 121, _, _, _, _, _⟩) (v := .agg #[.int .i64 fk, .slice (some ⟨db, doff, none⟩) 64 dc]) rfl (by kernel_rfl) (by kernel_rfl) (by kernel_rfl) (fun _ _ _ h => h) (Or.inl ⟨by kernel_rfl, by intro w _; go_simp⟩) (by assumption) ?_
                try simp only [Act.put, List.setIfInBounds_toArray, List.set_cons_zero, List.set_cons_succ]
                refine wpAnyH_ready (rs := [8]) (by kernel_rfl) (by simp) ?_
                refine AllReadyH.cons (o := ⟨some 122, _, _, _, _, _⟩) rfl (fun K hK => ?_) AllReadyH.nil
                go_simp
                refine hK.out _ _ ?_ (fun hHeld3 => ?_)
                · exact cell_later ((Below.refl _ _).alloc (Nat.le_refl _) _) hHeld2
                clear hK K
                try simp only [Act.put, List.setIfInBounds_toArray, List.set_cons_zero, List.set_cons_succ]
                refine wpAnyH_ready (rs := [9]) (by kernel_rfl) (by simp) ?_
                refine AllReadyH.cons (o := ⟨some 123, _, _, _, _, _⟩) rfl (fun K hK => ?_) AllReadyH.nil
                rw [if_pos (by rfl)]
                refine op_append_at elemW (.tmp 114) (.tmp 122) rfl w5.heap.size _ (.slice oa on oc) xs33 rfl ((owns_later_r HO33.out HBP33.out).alloc _) ⟨p33.heap.size, 0, none⟩ 1 1 [.int .i64 fk, .slice (some ⟨db, doff, none⟩) 64 dc] rfl (by decide) rfl (news_r p33 [.int .i64 fk, .slice (some ⟨db, doff, none⟩) 64 dc] _) (by intro q hq; simp only [List.mem_cons, List.mem_nil_iff, or_false] at hq; rcases hq with rfl | rfl <;> rfl) (by have := HLEN33.out; omega) (by have h1 := HBP33.out.size; have h2 := HSZ33.out; simp; omega) ?_
                intro z33 x33 hown hg hb hv
                have HOUT33 := Lib.hid (OutW.snoc (ws := ([(f0, pageB (partP zs 4 30))] ++ (fd, []) :: dataW zs fs i)) HF33.out HVF33.out HO33.out HX33.out HBP33.out HSZ33.out HI33.out (Or.inr ⟨db, doff, dc, rfl, ⟨by have h := HDB33.out; exact h, HLT33.out⟩, HA33.out⟩) hown hg hv)
                have HB33 : Hid (Below w5.heap.size w15 x33) := Lib.hid (((HBP33.out.mono HSZ33.out).alloc (by have h1 := HBP33.out.size; have h2 := HSZ33.out; omega) _).trans hb)
                have HG33 := Lib.hid hg
                have HHB33 := Lib.hid hb
                have HVV33 := Lib.hid hv
                clear hown hg hb hv
                refine hK.out _ _ ?_ (fun hHeld4 => ?_)
                · exact by rw [HB33.out.cell (p := ⟨b, off + k, none⟩) HBL33.out]; exact HC33.out
                clear hK K
                try simp only [Act.put, List.setIfInBounds_toArray, List.set_cons_zero, List.set_cons_succ]
                refine wpAnyH_take (i := 10) (oi := ⟨some 10, _, _, _, _, _⟩) (v := z33) rfl (by kernel_rfl) (by kernel_rfl) (by kernel_rfl) (fun _ _ _ h => h) (Or.inl ⟨by kernel_rfl, fun w _ => rfl⟩) (by assumption) ?_
                try simp only [Act.put, List.setIfInBounds_toArray, List.set_cons_zero, List.set_cons_succ]
                refine wpAnyH_done (by kernel_rfl) ?_ _
                have HSHP := HOUT33.out.shapeAny
                obtain ⟨oe, og, hz33⟩ := HSHP
                have HWE : Hid (([(f0, pageB (partP zs 4 30))] ++ (fd, []) :: dataW zs fs i) ++ [(fk, pageB (partP zs (34 + 30 * i) 30))] = [(f0, pageB (partP zs 4 30))] ++ (fd, []) :: dataW zs fs (i + 1)) := Lib.hid (by rw [HDW.out]; simp [whenW])
                rw [HWE.out] at HOUT33 hz33
                obtain ⟨om, hom⟩ : ∃ om, om = ([(f0, pageB (partP zs 4 30))] ++ (fd, []) :: dataW zs fs (i + 1)).length := ⟨_, rfl⟩
                rw [← hom] at hz33
                subst hz33
                have HOM := Lib.hid hom
                have hkw : wrap64 ((k : Int) + 1) = ((k + 1 : Nat) : Int) := by unfold wrap64; omega
                clear hom
                go_wp2_with fail
                go_roundw
                case rel => exact ⟨i + 1, _, k + 1, by go_num, by omega, by first | rfl | go_num, Lib.hid (by rw [HK.out, HUC.out]; rfl), ⟨oe, om, og, rfl, HOM, HOUT33⟩, ⟨ub, ud, rfl, Lib.hid (((owns_later_r HU15.out HBP33.out).alloc _).kept HG33.out (own_apart HNF15.out HVF33.out)), Lib.hid (fun b hb hF => by
                    rcases hF with hF | hF
                    · exact HNF15.out b hb hF
                    · have := (HU15.out.lt b hb).2; omega)⟩, Lib.hid (HB15.out.trans HB33.out)⟩
                case measure => simp [intOf]; omega
            · obtain rfl : i = 3 := by omega
              have HLEN : Hid (([(f0, pageB (partP zs 4 30))] ++ (fd, []) :: dataW zs fs 3).length ≤ 10) := Lib.hid (by have h1 := HLD.out; simp; omega)
              obtain ⟨g9, c9, hsh⟩ := HOR.out.shape (by simp)
              rw [← HON.out] at hsh
              simp only [Value.slice.injEq, true_and] at hsh
              obtain ⟨rfl, rfl⟩ := hsh
              have HUS : Hid (IArg w13 ua 3 uc [under0 zs fs, under1 zs fs, under2 zs fs]) := Lib.hid (row_arg HU.out (fun z hz => by
                have h := HUB.out z hz
                exact ⟨by omega, by omega⟩) (by decide))
              have cPG := Rpage_any ua 3 uc _ w13 HUS.out (by decide) (fun z hz => by
                have h := HUB.out z hz
                exact ⟨by omega, by omega⟩)
              have HP64 : Hid ((pageB [under0 zs fs, under1 zs fs, under2 zs fs]).length = 64) := Lib.hid (page_sealed (by simp)).1
              have HGB : Hid (w5.heap.size ≤ g9) := Lib.hid (HOR.out.1 g9 (HOR.out.2.1 g9 rfl)).1
              have hon : (1 : Int) < (on : Int) := by have h := HON.out; simp at h; omega
              have hon0 : 0 < on := by have h := HON.out; simp at h; omega
              have hne1 : ¬ (w4.heap.size = g9) := fun e => by have h1 := HGB.out; have h2 := HG45.out; omega
              have hne2 : ¬ (g9 = w4.heap.size) := fun e => by have h1 := HGB.out; have h2 := HG45.out; omega
              clear hlt hi
              go_wp2_with (first
                | (go_at_call 28; refine cPG.mono ?_; rintro e w14 ⟨q14, rfl, hf, hb⟩; obtain ⟨da, dc, rfl, hA5, hf5⟩ := hf; obtain ⟨db, doff, rfl, hdb, _⟩ := hf5.resolve_left (by intro h; have := congrArg List.length h; rw [HP64.out] at this; simp at this); rw [HP64.out] at hA5; rw [HP64.out]; have HDT := Lib.hid (datum_of hdb hA5); have HB14 := Lib.hid hb; obtain ⟨g', cap', hv', hbg, hgl, ⟨u, hcell, rfl⟩, hfr, hset⟩ := HOR.out.set (j := 1) (a := fd) hb rfl (by have h := HLEN.out; omega) HDT.out; obtain ⟨rfl, -, rfl⟩ : g9 = g' ∧ _ ∧ oc = cap' := by simpa using hv'
                   have k1 : w14.cell? ⟨g9, 3, none⟩ = some (.slice none 0 0) := hcell
                   have k2 : w14.frozen? ⟨g9, 3, none⟩ = false := hfr
                   have HSET := Lib.hid hset; have HN14 := Lib.hid (HN13.out.below (hb.mono HSZ13.out) HG45.out HB5.out.size); have HTS : Hid (Below w5.heap.size w14 (w14.setCell ⟨g9, 3, none⟩ (.slice (some ⟨db, doff, none⟩) 64 dc))) := Lib.hid ((Below.refl _ _).setCell (p := ⟨g9, 3, none⟩) hbg _); have HN15 := Lib.hid (HN14.out.below HTS.out HG45.out HB5.out.size); have HTH15 : Hid ((w14.setCell ⟨g9, 3, none⟩ (.slice (some ⟨db, doff, none⟩) 64 dc)).there w.heap.size 0 12) := Lib.hid (there_later (HB412.out.trans ((HBR.out.trans ((hb.mono HSZ13.out).trans HTS.out)).mono (Nat.le_of_lt HG45.out))) HTH.out HG0.out); clear hdb hA5 hf5 hb hv' hset hcell hfr hgl)
                | (refine wp_load_node rfl (.tmp 8) rfl w4.heap.size rfl 1 x0 x1 x2 x3 f0 fd (own_range HN15.out) ?_)
                | (refine wpList_store_mid rfl 32 (.tmp 4) (.tmp 132) rfl w.heap.size 0 (nodeCs 1 x0 x1 x2 x3 f0 fd).toArray rfl rfl HTH15.out (iNodeA 1 x0 x1 x2 x3 f0 fd) (all_oneCell_toArray (node_one 1 x0 x1 x2 x3 f0 fd)) ?_))
              have HWQ : Hid (writesP zs fs = [(f0, pageB (partP zs 4 30))] ++ (fd, pageB [under0 zs fs, under1 zs fs, under2 zs fs]) :: dataW zs fs 3) := Lib.hid HWP.out
              rw [HS9.out, HD9.out, HWQ.out]
              have HFIN := HSET.out ((w14.setCell ⟨g9, 3, none⟩ (.slice (some ⟨db, doff, none⟩) 64 dc)).setCells w.heap.size 0 (nodeCs 1 x0 x1 x2 x3 f0 fd))
                (fun p hp hne => by
                  rw [(Keeps.sets w.heap.size (nodeCs 1 x0 x1 x2 x3 f0 fd) 0 _).cell (by have h := HG05.out; omega)]
                  exact World.cell?_setCell_other _ _ _ _ (fun e => hne e.symm))
                (by
                  rw [(Keeps.sets w.heap.size (nodeCs 1 x0 x1 x2 x3 f0 fd) 0 _).cell (p := ⟨g9, 1 * 2 + 1, none⟩) (by have h := HG05.out; have h2 := HGB.out; show g9 ≠ w.heap.size; omega)]
                  exact World.cell?_setCell_same _ _ _ k1)
              refine bodyPost_ret (v := .tuple #[nodeV 1 x0 x1 x2 x3 f0 fd, .slice (some ⟨g9, 0, none⟩) on oc, .int .i64 0]) ?_ rfl ⟨some ⟨g9, 0, none⟩, oc, ?_, ?_, ?_⟩
              · exact node_end rfl _ _ _ _ _ _ _ _ _ _ _ _ _ rfl rfl rfl HTH15.out rfl
              · rw [HON.out]; rfl
              · exact HFIN
              · exact below_cells _ (Nat.le_refl _) _ _ _ HN15.out.2.2.2
      case' false =>
        rw [hS4] at HNE HWP HS40 HD40 HUA
        have HO9 := HO6
        have HN9 := HN6
        have HB9 := Lib.hid HN9.out.2.2.2
        have HSZ9 : Hid (w5.heap.size ≤ w6.heap.size) := Lib.hid HB56.out.size
        have HB49 : Hid (Below w4.heap.size w4 w6) := Lib.hid (HB.out.trans (HB56.out.mono (Nat.le_of_lt HG45.out)))
        have HS9 : Hid (singleP zs fs = 0) := Lib.hid HS40.out
        have HS4' := Lib.hid hS4
        clear hS4 HO6 HN6 HP6 HF6
        go_wp2_with fail
        refine (HP34.out _ HB9.out).mono ?_
        rintro e w10 ⟨v10, c10, rfl, -, hb10⟩
        rw [H62.out]
        have HSZ10 : Hid (w5.heap.size ≤ w10.heap.size) := Lib.hid (Nat.le_trans HSZ9.out hb10.size)
        have HO10 := Lib.hid (HO9.out.later hb10)
        have HN10 := Lib.hid (HN9.out.below (hb10.mono HSZ9.out) HG45.out HB5.out.size)
        have HB410 := Lib.hid (HB49.out.trans (hb10.mono (by have h1 := HG45.out; have h2 := HSZ9.out; omega)))
        have HTH10 : Hid (w10.there w.heap.size 0 12) := Lib.hid (there_later HB410.out HTH.out HG0.out)
        have HG05 : Hid (w.heap.size < w5.heap.size) := Lib.hid (by have h1 := HG0.out; have h2 := HG45.out; omega)
        clear hb10 HO9 HN9 HB49
        cases hDB : doubleB zs
        case' false =>
          rw [hDB] at HNE HWP HD40
          have HD9 : Hid (doubleP zs fs = 0) := Lib.hid HD40.out
          have HWQ : Hid (writesP zs fs = []) := Lib.hid (by
            have h := HWP.out
            rw [dataW_none hDB] at h
            exact h)
          clear hDB
          go_wp2_with (first
            | (refine wp_load_node rfl (.tmp 8) rfl w4.heap.size rfl 1 x0 x1 x2 x3 0 0 (own_range HN10.out) ?_)
            | (refine wpList_store_mid rfl 32 (.tmp 4) (.tmp 72) rfl w.heap.size 0 (nodeCs 1 x0 x1 x2 x3 0 0).toArray rfl rfl HTH10.out (iNodeA 1 x0 x1 x2 x3 0 0) (all_oneCell_toArray (node_one 1 x0 x1 x2 x3 0 0)) ?_))
          have HO11 := HO10.out.keeps (Keeps.sets w.heap.size (nodeCs 1 x0 x1 x2 x3 0 0) 0 w10) HG05.out
          obtain ⟨va, vc, hva, hwa⟩ := HO11.wis (by simp)
          rw [HS9.out, HD9.out, HWQ.out]
          refine bodyPost_ret (v := .tuple #[nodeV 1 x0 x1 x2 x3 0 0, .slice (some ⟨w5.heap.size, 0, none⟩) 0 0, .int .i64 0]) ?_ rfl ⟨va, vc, ?_, hwa, ?_⟩
          · exact node_end rfl _ _ _ _ _ _ _ _ _ _ _ _ _ rfl rfl rfl HTH10.out rfl
          · rw [hva]
          · exact below_cells _ (Nat.le_refl _) _ _ _ HN10.out.2.2.2
        case' true =>
          rw [hDB] at HNE HWP HD40
          have HDB := Lib.hid hDB
          clear hDB
          obtain ⟨b, off, rfl, hc1, hlo, hhi⟩ := HFK.out 0 (by rw [HNE.out]; simp; omega)
          rw [Nat.add_zero] at hc1
          have HBL7 : Hid (b < w5.heap.size) := Lib.hid (by have h1 := World.block_lt_of_cell? _ _ hc1; have h2 := HB5.out.size; simp at h1; omega)
          have HBG : Hid (b ≠ w4.heap.size) := Lib.hid (by have h1 := World.block_lt_of_cell? _ _ hc1; have h2 := HB4.out.size; simp at h1; omega)
          have HD9 : Hid (doubleP zs fs = fs.getD 0 0) := Lib.hid HD40.out
          rw [HD9.out] at HWP
          have HID : Hid (I64 (fs.getD 0 0)) := Lib.hid ⟨by omega, by omega⟩
          generalize fs.getD 0 0 = fd at *
          have hn1 : 0 < n := by have h1 := HNN.out; have h2 := HNE.out; simp at h2; omega
          have q0 : (0 : Int) < (n : Int) := by omega
          have q1 : w10.cell? ⟨b, off, none⟩ = some (.int .i64 fd) := by
            refine cell_later HN10.out.2.2.2 hc1
          have q2 : w10.cell? ⟨w4.heap.size, 9, none⟩ = some (.int .i64 0) := HN10.out.1 9 _ rfl
          have q3 : w10.frozen? ⟨w4.heap.size, 9, none⟩ = false := HN10.out.2.1 9
          have HN11x : Hid (OwnV w.heap.size w w4.heap.size (nodeCs 1 x0 x1 x2 x3 0 fd) (w10.setCell ⟨w4.heap.size, 9, none⟩ (.int .i64 fd))) := Lib.hid (HN10.out.store (k := 9) (y := .int .i64 fd) (by unfold nodeCs; simp))
          have HK11 : Hid (Keeps w4.heap.size w10 (w10.setCell ⟨w4.heap.size, 9, none⟩ (.int .i64 fd))) := Lib.hid (Keeps.set w10 ⟨w4.heap.size, 9, none⟩ _)
          have HO11x := Lib.hid (HO10.out.keeps HK11.out HG45.out)
          have HB411 : Hid (Below w4.heap.size w4 (w10.setCell ⟨w4.heap.size, 9, none⟩ (.int .i64 fd))) := Lib.hid (HB410.out.setCell (p := ⟨w4.heap.size, 9, none⟩) (Nat.le_refl _) _)
          obtain ⟨hF, hvF, xs, ho, hx⟩ := HO11x.out
          have HF := Lib.hid hF
          have HVF := Lib.hid hvF
          have HOW := Lib.hid ho
          have HX := Lib.hid hx
          have HSZ11 : Hid (w5.heap.size ≤ (w10.setCell ⟨w4.heap.size, 9, none⟩ (.int .i64 fd)).heap.size) := Lib.hid (by rw [HK11.out.1]; exact HSZ10.out)
          have HNW : Hid (∀ (j : Nat) (u : Value), [.int .i64 fd, .slice none 0 0][j]? = some u → ((w10.setCell ⟨w4.heap.size, 9, none⟩ (.int .i64 fd)).alloc (.cells #[.int .i64 fd, .slice none 0 0] 64)).cell? ((⟨w10.heap.size, 0, none⟩ : Addr).add j) = some u) := Lib.hid (by
            have h := news_r (w10.setCell ⟨w4.heap.size, 9, none⟩ (.int .i64 fd)) [.int .i64 fd, .slice none 0 0] 64
            rw [HK11.out.1] at h
            exact h)
          have hg1 : ¬ (w4.heap.size = b) := fun e => HBG.out e.symm
          have hg2 : ¬ (b = w4.heap.size) := HBG.out
          clear hF hvF ho hx hc1 hlo hhi HO10 HN10 HB410 HO11x
          go_wp2_with (at_builtin; refine wp_append_at elemW rfl (.tmp 81) (.tmp 87) rfl w5.heap.size 0 _ xs rfl (HOW.out.alloc _) ⟨w10.heap.size, 0, none⟩ 1 1 [.int .i64 fd, .slice none 0 0] rfl (by decide) rfl HNW.out (by intro q hq; simp only [List.mem_cons, List.mem_nil_iff, or_false] at hq; rcases hq with rfl | rfl <;> rfl) (by decide) (by have h := HSZ11.out; rw [World.size_alloc]; omega) ?_; intro z12 w12 hown hg hb hv; have HO12 := Lib.hid (OutW.snoc (ws := []) HF.out HVF.out HOW.out HX.out (Below.refl _ _) HSZ11.out HID.out (Or.inl ⟨rfl, rfl⟩) hown hg hv); have HB12 := Lib.hid (((Below.refl w5.heap.size (w10.setCell ⟨w4.heap.size, 9, none⟩ (.int .i64 fd))).alloc HSZ11.out _).trans hb); clear hown hg hb hv)
          have hg3 : True := trivial
          clear hg1 hg2 hg3 q0 q1 q2 q3 HK11 HOW HX HF HVF HNW
          generalize w10.setCell ⟨w4.heap.size, 9, none⟩ (.int .i64 fd) = w11 at *
          have HN12 := Lib.hid (HN11x.out.below HB12.out HG45.out HB5.out.size)
          have HB412 := Lib.hid (HB411.out.trans (HB12.out.mono (Nat.le_of_lt HG45.out)))
          have HSZ12 : Hid (w5.heap.size ≤ w12.heap.size) := Lib.hid (Nat.le_trans HSZ11.out HB12.out.size)
          have HBA : Hid (Below w12.heap.size w12 (w12.alloc (.cells #[] 3))) := Lib.hid ((Below.refl _ _).alloc (Nat.le_refl _) _)
          have HU0 : Hid ((w12.alloc (.cells #[] 3)).ownsRow w5.heap.size 3 1 (.slice (some ⟨w12.heap.size, 0, none⟩) 0 0) 0 (ints ([under0 zs fs, under1 zs fs, under2 zs fs].take 0))) := Lib.hid (World.ownsRow_made (base := w5.heap.size) (e := 3) (size := 1) w12 #[] 0 HSZ12.out (by decide) rfl)
          have HO13 := Lib.hid (HO12.out.later HBA.out)
          have HNF0 : Hid (∀ b, (Value.slice (some ⟨w12.heap.size, 0, none⟩) 0 0).ownBlock = some b → ¬ moreF _ w11.heap.size w12.heap.size b) := Lib.hid (fun b hb hF => by have := (HO12.out.1 b hF).2; simp [Value.ownBlock] at hb; omega)
          obtain ⟨oa, oc, hz12⟩ := HO12.out.shapeAny
          obtain rfl : z12 = .slice oa 1 oc := hz12
          have hcap' := HNN.out
          clear HO12 HN11x HB411 HB12 HSZ11 hcap'
          go_loopw [10, 11, 15, 16] (fun ov kv uv fv wr => ∃ (i : Nat) (F : Nat → Prop) (k : Nat), fv = .int .i64 ((34 + 30 * i : Nat) : Int) ∧ i ≤ 3 ∧ kv = .int .i64 (k : Int) ∧ Hid (k = 0 + 1 + underC zs i) ∧ (∃ oa on oc, ov = .slice oa on oc ∧ Hid (on = ([] ++ (fd, []) :: dataW zs fs i).length) ∧ Hid (OutW w5.heap.size F wr (.slice oa on oc) ([] ++ (fd, []) :: dataW zs fs i))) ∧ (∃ ua uc, uv = .slice ua i uc ∧ Hid (wr.ownsRow w5.heap.size 3 1 (.slice ua i uc) i (ints ([under0 zs fs, under1 zs fs, under2 zs fs].take i))) ∧ Hid (∀ b, (Value.slice ua i uc).ownBlock = some b → ¬ F b)) ∧ Hid (Below w5.heap.size w12 wr)) (fun _ _ _ fv _ => 124 - (intOf fv).toNat)
          case atStart => exact ⟨0, _, 1, rfl, by decide, rfl, Lib.hid rfl, ⟨oa, 1, oc, rfl, Lib.hid rfl, HO13⟩, ⟨_, 0, rfl, HU0, HNF0⟩, Lib.hid (HBA.out.mono HSZ12.out)⟩
          case round =>
            obtain ⟨i, F, k, rfl, hi, rfl, HK, ⟨oa, on, oc, rfl, HON, HOR⟩, ⟨ua, uc, rfl, HU, HNF⟩, HBR⟩ := hrel
            clear HO13 HU0 HNF0 HBA
            obtain ⟨w13, hw13⟩ : ∃ w13, w13 = wr := ⟨_, rfl⟩
            subst hw13
            have HN13 := Lib.hid (HN12.out.below HBR.out HG45.out HB5.out.size)
            have HSZ13 : Hid (w5.heap.size ≤ w13.heap.size) := Lib.hid (Nat.le_trans HSZ12.out HBR.out.size)
            have HLD := Lib.hid (dataW_le zs fs i)
            by_cases hlt : i < 3
            · have i1 : ((34 + 30 * i : Nat) : Int) < 96 := by omega
              have cP := HPL.out w13 i HN13.out.2.2.2 hlt
              have HUT : Hid ([under0 zs fs, under1 zs fs, under2 zs fs].take (i + 1) = [under0 zs fs, under1 zs fs, under2 zs fs].take i ++ [underAt zs fs i]) := Lib.hid (us_take hlt)
              have HUE := Lib.hid (HUA.out i hlt)
              have HDW : Hid (dataW zs fs (i + 1) = dataW zs fs i ++ whenW (someP zs (34 + 30 * i) 30) (underAt zs fs i) (partP zs (34 + 30 * i) 30)) := Lib.hid rfl
              have HUC : Hid (underC zs (i + 1) = underC zs i + (someP zs (34 + 30 * i) 30).toNat) := Lib.hid rfl
              have hi2 : i ≤ 2 := by omega
              have HLT3 := Lib.hid hlt
              cases hb : someP zs (34 + 30 * i) 30 with
              | false =>
                rw [hb] at HUE HDW HUC
                have HBB := Lib.hid hb
                have HU1 : Hid (underAt zs fs i = 0) := Lib.hid HUE.out
                rw [HU1.out] at HUT
                clear hb
                go_wp2_with (first
                  | (go_at_call 22; refine cP.mono ?_; rintro e w14 ⟨v14, c14, rfl, -, hb14⟩; rw [HBB.out]; have HB14' := Lib.hid hb14; clear hb14)
                  | (at_builtin; refine wp_append_at elemIR rfl (.tmp 104) (.tmp 105) rfl w5.heap.size i (.slice ua i uc) _ rfl ((owns_later_r HU.out HB14'.out).alloc _) ⟨w14.heap.size, 0, none⟩ 1 1 (ints [0]) rfl (by decide) rfl (news_r w14 (ints [0]) _) (ints_one _) (by omega) (by have h1 := HSZ13.out; have h2 := HB14'.out.size; rw [World.size_alloc]; omega) ?_; intro z15 w15 hown hg hbb hv; obtain ⟨ub, ud, rfl⟩ := owns_shape_r hown; rw [← ints_append, ← HUT.out] at hown; have HU15 := Lib.hid hown; have HO15 := Lib.hid (((HOR.out.later HB14'.out).later ((Below.refl _ _).alloc (Nat.le_refl _) (.cells #[.int .i64 0] 3))).grown hg HNF.out); have HNF15 := Lib.hid (not_later HOR.out.1 HNF.out (by rw [World.size_alloc]; have h2 := HB14'.out.size; omega) hv); have HB15 := Lib.hid (HBR.out.trans (((HB14'.out.mono HSZ13.out).alloc (by have h1 := HSZ13.out; have h2 := HB14'.out.size; omega) _).trans hbb)); clear hown hg hbb hv))
                go_roundw
                case rel => exact ⟨i + 1, F, k, by go_num, by omega, rfl, Lib.hid (by rw [HK.out, HUC.out]; rfl), ⟨oa, on, oc, rfl, Lib.hid (by rw [HON.out, HDW.out]; simp [whenW]), Lib.hid (by rw [HDW.out]; simpa [whenW] using HO15.out)⟩, ⟨ub, ud, rfl, HU15, HNF15⟩, HB15⟩
                case measure => simp [intOf]; omega
              | true =>
                rw [hb] at HUE HDW HUC
                have HBB := Lib.hid hb
                have hkn : k < needP zs := by
                  have h1 := underC_lt hlt hb
                  have h2 := HNE.out
                  have h3 := HK.out
                  simp at h2
                  omega
                obtain ⟨b', off', e', hc1, hlo, hhi⟩ := HFK.out k hkn
                obtain ⟨rfl, rfl⟩ : b = b' ∧ off = off' := by simpa using e'
                have HU1 : Hid (underAt zs fs i = fs.getD k 0) := Lib.hid (by rw [HUE.out, HK.out]; rfl)
                rw [HU1.out] at HUT HDW
                have HI33 : Hid (I64 (fs.getD k 0)) := Lib.hid ⟨by omega, by omega⟩
                generalize fs.getD k 0 = fk at *
                have hkn2 : (k : Int) < (n : Int) := by have h1 := HNN.out; omega
                have hk0 : (0 : Int) ≤ (k : Int) := by omega
                have HHC : Hid (∀ W, Below w.heap.size w W → W.cell? ⟨b, off + k, none⟩ = some (.int .i64 fk)) := Lib.hid (fun W hW => cell_later hW hc1)
                have HP6433 : Hid ((pageB (partP zs (34 + 30 * i) 30)).length = 64) := Lib.hid (page_sealed (by rw [partP_length]; decide)).1
                have HSP := Lib.hid (HSM.out (34 + 30 * i) 30)
                have HKB : Hid (k ≤ 5) := Lib.hid (by have h1 := HK.out; have h2 := underC_le zs i; omega)
                have HLEN33 : Hid (([] ++ (fd, []) :: dataW zs fs i).length ≤ 10) := Lib.hid (by have h1 := HLD.out; simp; omega)
                have hkb := HKB.out
                clear hb hkn hc1 hlo hhi HUE
                go_wp2_with (first
                  | (go_at_call 22; refine cP.mono ?_; rintro e w14 ⟨v14, c14, rfl, ⟨hp14, hf14⟩, hb14⟩; rw [HBB.out]; obtain ⟨g14, o14, rfl, hg14⟩ : ∃ g o, v14 = some ⟨g, o, none⟩ ∧ w13.heap.size ≤ g := (hf14.resolve_left (fun h => by have := congrArg List.length h; rw [partP_length] at this; simp at this)); have HB14' := Lib.hid hb14; have HP14 := Lib.hid hp14; have HG14 := Lib.hid hg14; have q4 : w14.cell? ⟨b, off + k, none⟩ = some (.int .i64 fk) := HHC.out w14 (HN13.out.2.2.2.trans (hb14.mono (by have h1 := HSZ13.out; have h2 := HB5.out.size; omega))); clear hb14 hp14 hf14 hg14)
                  | (at_builtin; refine wp_append_at elemIR rfl (.tmp 107) (.tmp 112) rfl w5.heap.size i (.slice ua i uc) _ rfl ((owns_later_r HU.out HB14'.out).alloc _) ⟨w14.heap.size, 0, none⟩ 1 1 (ints [fk]) rfl (by decide) rfl (news_r w14 (ints [fk]) _) (ints_one _) (by omega) (by have h1 := HSZ13.out; have h2 := HB14'.out.size; rw [World.size_alloc]; omega) ?_; intro z15 w15 hown hg hbb hv; obtain ⟨ub, ud, rfl⟩ := owns_shape_r hown; rw [← ints_append, ← HUT.out] at hown; have HU15 := Lib.hid hown; have HO15 := Lib.hid (((HOR.out.later HB14'.out).later ((Below.refl _ _).alloc (Nat.le_refl _) (.cells #[.int .i64 fk] 3))).grown hg HNF.out); have HNF15 := Lib.hid (not_later HOR.out.1 HNF.out (by rw [World.size_alloc]; have h2 := HB14'.out.size; omega) hv); have HB1315 : Hid (Below w5.heap.size w13 w15) := Lib.hid (((HB14'.out.mono HSZ13.out).alloc (by have h1 := HSZ13.out; have h2 := HB14'.out.size; omega) _).trans hbb); have HP15 : Hid (IArg w15 (some ⟨g14, o14, none⟩) 30 c14 (partP zs (34 + 30 * i) 30)) := Lib.hid ((HP14.out.later ((Below.refl _ _).alloc (Nat.le_refl _) (.cells #[.int .i64 fk] 3))).grownAny hg (fun e => by have h1 := (HU.out.lt g14 e).2; have h2 := HG14.out; omega)); clear hown hg hbb hv))
                have HB15 := Lib.hid (HBR.out.trans HB1315.out)
                have HSZ33 : Hid (w5.heap.size ≤ w15.heap.size) := Lib.hid (Nat.le_trans HSZ13.out HB1315.out.size)
                have HN15 := Lib.hid (HN12.out.below HB15.out HG45.out HB5.out.size)
                have HC33 : Hid (w15.drew.cell? ⟨b, off + k, none⟩ = some (.int .i64 fk)) := Lib.hid (HHC.out w15 HN15.out.2.2.2)
                have HBL33 := HBL7
                have cPG := Rpage_any (some ⟨g14, o14, none⟩) 30 c14 (partP zs (34 + 30 * i) 30) w15.drew HP15.out.drew (by decide) HSP.out
                clear q4
                obtain ⟨hF33, hvF33, xs33, ho33, hx33⟩ := HO15.out
                have HO33 := Lib.hid ho33
                have HX33 := Lib.hid hx33
                have HF33 := Lib.hid hF33
                have HVF33 := Lib.hid hvF33
                clear hF33 hvF33 ho33 hx33
                refine wp_region_held_drew (S := fun W => W.cell? ⟨b, off + k, none⟩ = some (.int .i64 fk)) (by kernel_rfl) HC33.out (fun hHeld => ?_)
                refine wpAnyH_take (i := 0) (oi := ⟨some 114, _, _, _, _, _⟩) (v := .slice oa on oc) rfl (by kernel_rfl) (by kernel_rfl) (by kernel_rfl) (fun _ _ _ h => h) (Or.inl ⟨by kernel_rfl, fun w _ => rfl⟩) (by assumption) ?_
                try simp only [Act.put, List.setIfInBounds_toArray, List.set_cons_zero, List.set_cons_succ]
                refine wpAnyH_take (i := 1) (oi := ⟨some 115, _, _, _, _, _⟩) (v := .slice (some ⟨b, off, none⟩) n c) rfl (by kernel_rfl) (by kernel_rfl) (by kernel_rfl) (fun _ _ _ h => h) (Or.inl ⟨by kernel_rfl, fun w _ => rfl⟩) (by assumption) ?_
                try simp only [Act.put, List.setIfInBounds_toArray, List.set_cons_zero, List.set_cons_succ]
                refine wpAnyH_take (i := 2) (oi := ⟨some 116, _, _, _, _, _⟩) (v := .int .i64 (k : Int)) rfl (by kernel_rfl) (by kernel_rfl) (by kernel_rfl) (fun _ _ _ h => h) (Or.inl ⟨by kernel_rfl, fun w _ => rfl⟩) (by assumption) ?_
                try simp only [Act.put, List.setIfInBounds_toArray, List.set_cons_zero, List.set_cons_succ]
                refine wpAnyH_take (i := 3) (oi := ⟨some 117, _, _, _, _, _⟩) (v := .pointer (some ⟨b, off + k, none⟩)) rfl (by kernel_rfl) (by kernel_rfl) (by kernel_rfl) (fun _ _ _ h => h) (Or.inl ⟨by kernel_rfl, by intro w _; go_simp⟩) (by assumption) ?_
                try simp only [Act.put, List.setIfInBounds_toArray, List.set_cons_zero, List.set_cons_succ]
                refine wpAnyH_take (i := 4) (oi := ⟨some 118, _, _, _, _, _⟩) (v := .int .i64 fk) rfl (by kernel_rfl) (by kernel_rfl) (by kernel_rfl) (fun _ _ _ h => h) (Or.inl ⟨by kernel_rfl, by intro w hSw; (try dsimp only at hSw); go_simp⟩) (by assumption) ?_
                try simp only [Act.put, List.setIfInBounds_toArray, List.set_cons_zero, List.set_cons_succ]
                refine wpAnyH_take (i := 5) (oi := ⟨some 119, _, _, _, _, _⟩) (v := .slice (some ⟨g14, o14, none⟩) 30 c14) rfl (by kernel_rfl) (by kernel_rfl) (by kernel_rfl) (fun _ _ _ h => h) (Or.inl ⟨by kernel_rfl, fun w _ => rfl⟩) (by assumption) ?_
                try simp only [Act.put, List.setIfInBounds_toArray, List.set_cons_zero, List.set_cons_succ]
                refine wpAnyH_ready (rs := [6]) (by kernel_rfl) (by simp) ?_
                refine AllReadyH.cons (o := ⟨some 120, _, _, _, _, _⟩) rfl (fun K hK => ?_) AllReadyH.nil
                go_simp
                go_at_call 28
                refine (cPG).mono ?_
                rintro e p33 ⟨q33, rfl, hf, hb⟩
                obtain ⟨da, dc, rfl, hA5, hf5⟩ := hf
                obtain ⟨db, doff, rfl, hdb, _⟩ := hf5.resolve_left (by intro h; have := congrArg List.length h; rw [HP6433.out] at this; simp at this)
                rw [HP6433.out] at hA5
                rw [HP6433.out]
                have HA33 := Lib.hid hA5
                have HDB33 := Lib.hid hdb
                have HBP33 : Hid (Below w15.heap.size w15 p33) := Lib.hid ((Below.refl _ _).drew.trans hb)
                clear hA5 hf5 hdb hb
                have HLT33 : Hid (db < p33.heap.size) := Lib.hid (by obtain ⟨b', o', he, hc⟩ := HA33.out.1.2.2.2.resolve_left (by decide); simp only [Option.some.injEq, Addr.mk.injEq, and_true] at he; obtain ⟨rfl, rfl⟩ := he; exact World.block_lt_of_cell? _ _ (hc 0 (by decide)))
                try (go_wp2_with fail)
                refine hK.out _ _ ?_ (fun hHeld2 => ?_)
                · exact cell_later HBP33.out HC33.out
                clear hK K
                try simp only [Act.put, List.setIfInBounds_toArray, List.set_cons_zero, List.set_cons_succ]
                refine wpAnyH_take (i := 7) (oi := ⟨some 121, _, _, _, _, _⟩) (v := .agg #[.int .i64 fk, .slice (some ⟨db, doff, none⟩) 64 dc]) rfl (by kernel_rfl) (by kernel_rfl) (by kernel_rfl) (fun _ _ _ h => h) (Or.inl ⟨by kernel_rfl, by intro w _; go_simp⟩) (by assumption) ?_
                try simp only [Act.put, List.setIfInBounds_toArray, List.set_cons_zero, List.set_cons_succ]
                refine wpAnyH_ready (rs := [8]) (by kernel_rfl) (by simp) ?_
                refine AllReadyH.cons (o := ⟨some 122, _, _, _, _, _⟩) rfl (fun K hK => ?_) AllReadyH.nil
                go_simp
                refine hK.out _ _ ?_ (fun hHeld3 => ?_)
                · exact cell_later ((Below.refl _ _).alloc (Nat.le_refl _) _) hHeld2
                clear hK K
                try simp only [Act.put, List.setIfInBounds_toArray, List.set_cons_zero, List.set_cons_succ]
                refine wpAnyH_ready (rs := [9]) (by kernel_rfl) (by simp) ?_
                refine AllReadyH.cons (o := ⟨some 123, _, _, _, _, _⟩) rfl (fun K hK => ?_) AllReadyH.nil
                rw [if_pos (by rfl)]
                refine op_append_at elemW (.tmp 114) (.tmp 122) rfl w5.heap.size _ (.slice oa on oc) xs33 rfl ((owns_later_r HO33.out HBP33.out).alloc _) ⟨p33.heap.size, 0, none⟩ 1 1 [.int .i64 fk, .slice (some ⟨db, doff, none⟩) 64 dc] rfl (by decide) rfl (news_r p33 [.int .i64 fk, .slice (some ⟨db, doff, none⟩) 64 dc] _) (by intro q hq; simp only [List.mem_cons, List.mem_nil_iff, or_false] at hq; rcases hq with rfl | rfl <;> rfl) (by have := HLEN33.out; omega) (by have h1 := HBP33.out.size; have h2 := HSZ33.out; simp; omega) ?_
                intro z33 x33 hown hg hb hv
                have HOUT33 := Lib.hid (OutW.snoc (ws := ([] ++ (fd, []) :: dataW zs fs i)) HF33.out HVF33.out HO33.out HX33.out HBP33.out HSZ33.out HI33.out (Or.inr ⟨db, doff, dc, rfl, ⟨by have h := HDB33.out; exact h, HLT33.out⟩, HA33.out⟩) hown hg hv)
                have HB33 : Hid (Below w5.heap.size w15 x33) := Lib.hid (((HBP33.out.mono HSZ33.out).alloc (by have h1 := HBP33.out.size; have h2 := HSZ33.out; omega) _).trans hb)
                have HG33 := Lib.hid hg
                have HHB33 := Lib.hid hb
                have HVV33 := Lib.hid hv
                clear hown hg hb hv
                refine hK.out _ _ ?_ (fun hHeld4 => ?_)
                · exact by rw [HB33.out.cell (p := ⟨b, off + k, none⟩) HBL33.out]; exact HC33.out
                clear hK K
                try simp only [Act.put, List.setIfInBounds_toArray, List.set_cons_zero, List.set_cons_succ]
                refine wpAnyH_take (i := 10) (oi := ⟨some 10, _, _, _, _, _⟩) (v := z33) rfl (by kernel_rfl) (by kernel_rfl) (by kernel_rfl) (fun _ _ _ h => h) (Or.inl ⟨by kernel_rfl, fun w _ => rfl⟩) (by assumption) ?_
                try simp only [Act.put, List.setIfInBounds_toArray, List.set_cons_zero, List.set_cons_succ]
                refine wpAnyH_done (by kernel_rfl) ?_ _
                have HSHP := HOUT33.out.shapeAny
                obtain ⟨oe, og, hz33⟩ := HSHP
                have HWE : Hid (([] ++ (fd, []) :: dataW zs fs i) ++ [(fk, pageB (partP zs (34 + 30 * i) 30))] = [] ++ (fd, []) :: dataW zs fs (i + 1)) := Lib.hid (by rw [HDW.out]; simp [whenW])
                rw [HWE.out] at HOUT33 hz33
                obtain ⟨om, hom⟩ : ∃ om, om = ([] ++ (fd, []) :: dataW zs fs (i + 1)).length := ⟨_, rfl⟩
                rw [← hom] at hz33
                subst hz33
                have HOM := Lib.hid hom
                have hkw : wrap64 ((k : Int) + 1) = ((k + 1 : Nat) : Int) := by unfold wrap64; omega
                clear hom
                go_wp2_with fail
                go_roundw
                case rel => exact ⟨i + 1, _, k + 1, by go_num, by omega, by first | rfl | go_num, Lib.hid (by rw [HK.out, HUC.out]; rfl), ⟨oe, om, og, rfl, HOM, HOUT33⟩, ⟨ub, ud, rfl, Lib.hid (((owns_later_r HU15.out HBP33.out).alloc _).kept HG33.out (own_apart HNF15.out HVF33.out)), Lib.hid (fun b hb hF => by
                    rcases hF with hF | hF
                    · exact HNF15.out b hb hF
                    · have := (HU15.out.lt b hb).2; omega)⟩, Lib.hid (HB15.out.trans HB33.out)⟩
                case measure => simp [intOf]; omega
            · obtain rfl : i = 3 := by omega
              have HLEN : Hid (([] ++ (fd, []) :: dataW zs fs 3).length ≤ 10) := Lib.hid (by have h1 := HLD.out; simp; omega)
              obtain ⟨g9, c9, hsh⟩ := HOR.out.shape (by simp)
              rw [← HON.out] at hsh
              simp only [Value.slice.injEq, true_and] at hsh
              obtain ⟨rfl, rfl⟩ := hsh
              have HUS : Hid (IArg w13 ua 3 uc [under0 zs fs, under1 zs fs, under2 zs fs]) := Lib.hid (row_arg HU.out (fun z hz => by
                have h := HUB.out z hz
                exact ⟨by omega, by omega⟩) (by decide))
              have cPG := Rpage_any ua 3 uc _ w13 HUS.out (by decide) (fun z hz => by
                have h := HUB.out z hz
                exact ⟨by omega, by omega⟩)
              have HP64 : Hid ((pageB [under0 zs fs, under1 zs fs, under2 zs fs]).length = 64) := Lib.hid (page_sealed (by simp)).1
              have HGB : Hid (w5.heap.size ≤ g9) := Lib.hid (HOR.out.1 g9 (HOR.out.2.1 g9 rfl)).1
              have hon : (0 : Int) < (on : Int) := by have h := HON.out; simp at h; omega
              have hon0 : 0 < on := by have h := HON.out; simp at h; omega
              have hne1 : ¬ (w4.heap.size = g9) := fun e => by have h1 := HGB.out; have h2 := HG45.out; omega
              have hne2 : ¬ (g9 = w4.heap.size) := fun e => by have h1 := HGB.out; have h2 := HG45.out; omega
              clear hlt hi
              go_wp2_with (first
                | (go_at_call 28; refine cPG.mono ?_; rintro e w14 ⟨q14, rfl, hf, hb⟩; obtain ⟨da, dc, rfl, hA5, hf5⟩ := hf; obtain ⟨db, doff, rfl, hdb, _⟩ := hf5.resolve_left (by intro h; have := congrArg List.length h; rw [HP64.out] at this; simp at this); rw [HP64.out] at hA5; rw [HP64.out]; have HDT := Lib.hid (datum_of hdb hA5); have HB14 := Lib.hid hb; obtain ⟨g', cap', hv', hbg, hgl, ⟨u, hcell, rfl⟩, hfr, hset⟩ := HOR.out.set (j := 0) (a := fd) hb rfl (by have h := HLEN.out; omega) HDT.out; obtain ⟨rfl, -, rfl⟩ : g9 = g' ∧ _ ∧ oc = cap' := by simpa using hv'
                   have k1 : w14.cell? ⟨g9, 1, none⟩ = some (.slice none 0 0) := hcell
                   have k2 : w14.frozen? ⟨g9, 1, none⟩ = false := hfr
                   have HSET := Lib.hid hset; have HN14 := Lib.hid (HN13.out.below (hb.mono HSZ13.out) HG45.out HB5.out.size); have HTS : Hid (Below w5.heap.size w14 (w14.setCell ⟨g9, 1, none⟩ (.slice (some ⟨db, doff, none⟩) 64 dc))) := Lib.hid ((Below.refl _ _).setCell (p := ⟨g9, 1, none⟩) hbg _); have HN15 := Lib.hid (HN14.out.below HTS.out HG45.out HB5.out.size); have HTH15 : Hid ((w14.setCell ⟨g9, 1, none⟩ (.slice (some ⟨db, doff, none⟩) 64 dc)).there w.heap.size 0 12) := Lib.hid (there_later (HB412.out.trans ((HBR.out.trans ((hb.mono HSZ13.out).trans HTS.out)).mono (Nat.le_of_lt HG45.out))) HTH.out HG0.out); clear hdb hA5 hf5 hb hv' hset hcell hfr hgl)
                | (refine wp_load_node rfl (.tmp 8) rfl w4.heap.size rfl 1 x0 x1 x2 x3 0 fd (own_range HN15.out) ?_)
                | (refine wpList_store_mid rfl 32 (.tmp 4) (.tmp 132) rfl w.heap.size 0 (nodeCs 1 x0 x1 x2 x3 0 fd).toArray rfl rfl HTH15.out (iNodeA 1 x0 x1 x2 x3 0 fd) (all_oneCell_toArray (node_one 1 x0 x1 x2 x3 0 fd)) ?_))
              have HWQ : Hid (writesP zs fs = [] ++ (fd, pageB [under0 zs fs, under1 zs fs, under2 zs fs]) :: dataW zs fs 3) := Lib.hid HWP.out
              rw [HS9.out, HD9.out, HWQ.out]
              have HFIN := HSET.out ((w14.setCell ⟨g9, 1, none⟩ (.slice (some ⟨db, doff, none⟩) 64 dc)).setCells w.heap.size 0 (nodeCs 1 x0 x1 x2 x3 0 fd))
                (fun p hp hne => by
                  rw [(Keeps.sets w.heap.size (nodeCs 1 x0 x1 x2 x3 0 fd) 0 _).cell (by have h := HG05.out; omega)]
                  exact World.cell?_setCell_other _ _ _ _ (fun e => hne e.symm))
                (by
                  rw [(Keeps.sets w.heap.size (nodeCs 1 x0 x1 x2 x3 0 fd) 0 _).cell (p := ⟨g9, 0 * 2 + 1, none⟩) (by have h := HG05.out; have h2 := HGB.out; show g9 ≠ w.heap.size; omega)]
                  exact World.cell?_setCell_same _ _ _ k1)
              refine bodyPost_ret (v := .tuple #[nodeV 1 x0 x1 x2 x3 0 fd, .slice (some ⟨g9, 0, none⟩) on oc, .int .i64 0]) ?_ rfl ⟨some ⟨g9, 0, none⟩, oc, ?_, ?_, ?_⟩
              · exact node_end rfl _ _ _ _ _ _ _ _ _ _ _ _ _ rfl rfl rfl HTH15.out rfl
              · rw [HON.out]; rfl
              · exact HFIN
              · exact below_cells _ (Nat.le_refl _) _ _ _ HN15.out.2.2.2

end Go.Proofs.Ytdbkhhmadefccaa
