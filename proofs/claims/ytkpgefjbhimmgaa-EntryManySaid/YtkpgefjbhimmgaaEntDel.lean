/-
  Proved here: what the landed entry answers when one of at most three entries is taken out of a list of the call's own (Delete).
  The conditions stand at each theorem.
-/
import Derived.Test.YtkpgefjbhimmgaaEntAdd2
import Derived.Lib.SliceRun
namespace Go.Proofs.Ytkpgefjbhimmgaa
open Go.RowKit
set_option linter.unusedVariables false
set_option linter.unusedSimpArgs false

def zeroE2 : List Value := [.int .i64 0, .string ByteArray.empty]

/-- 'clear' of one entry. -/
theorem run_clear_ent (w : World) (ty : TypeId) (b o c : Nat) (hc : ∀ j, j < 2 → (w.cell? ⟨b, o + j, none⟩).isSome = true) (hf : ∀ j, j < 2 → w.frozen? ⟨b, o + j, none⟩ = false) :
    (Builtin.clear_ #[22] ty #[.slice (some ⟨b, o, none⟩) 1 c]).run Try.prog w = .ok (.tuple #[]) (w.setCells b o zeroE2) := by
  have hv : ∀ w, (zeroValue 40).run Try.prog w = .ok (.agg #[.int .i64 0, .string ByteArray.empty]) w := fun w => by kernel_rfl
  have hzc : (Builtin.zeroCells (Value.agg #[.int .i64 0, .string ByteArray.empty]).cells 1).toList = zeroE2 := by first | rfl | kernel_rfl | (simp [Builtin.zeroCells, Value.cells, zeroE2]; done)
  have hst := run_storeCells_cells (P := Try.prog) b o zeroE2 0 w (by simpa [zeroE2] using hc) (by simpa [zeroE2] using hf) (by intro v hv'; simp [zeroE2] at hv'; rcases hv' with rfl | rfl <;> rfl)
  simp only [Nat.add_zero] at hst
  simp [Builtin.clear_, run_underlying Try.underlying22, hv, hzc, hst]

theorem wp_clear_ent {ops : Array Oper} {rest : List Oper} {o : Oper} {a : Act} {Q : Exit → Act → World → Prop} {w : World} (hgd : o.guard = none) (x : Operand)
    (ho : o.op = .call { callee := .builtin .clear, args := #[x], argTypes := #[22] }) (b off c : Nat) (hx : a.eval x = .slice (some ⟨b, off, none⟩) 1 c)
    (hc : ∀ j, j < 2 → (w.cell? ⟨b, off + j, none⟩).isSome = true) (hf : ∀ j, j < 2 → w.frozen? ⟨b, off + j, none⟩ = false)
    (h : wpList Try.prog ops Q rest (a.put o.dst (.tuple #[])) (w.setCells b off zeroE2)) : wpList Try.prog ops Q (o :: rest) a w := by
  have hrun := run_clear_ent w o.type b off c hc hf
  refine wpList_plain hgd fun K hK => ?_
  unfold Oper.wp
  simp [execOp, ho, resolve, invoke, builtin, hx, hrun, Result.andThen]
  exact hK _ _ h

section
variable {ops : Array Oper} {o : Oper} {a : Act} {w : World} {K : Act → World → Prop} {Q : Exit → Act → World → Prop} {E : Prop}

/-- 'append' where there is room, as one step of a statement that draws its order. -/
theorem step_append_fits {t e : TypeId} {z : Value} {sz nb : Nat} (hE : ElemK t e z sz nb) (hgd : o.guard = none) (s y : Operand) (ho : o.op = Op.call { callee := Callee.builtin Builtin.append, args := #[s, y], argTypes := #[t, t] })
    (base g n cap : Nat) (xs : List Value) (hs : a.eval s = .slice (some ⟨g, 0, none⟩) n cap) (hown : w.ownsRow base e sz (.slice (some ⟨g, 0, none⟩) n cap) n xs) (ad : Addr) (m c : Nat) (news : List Value) (hl : news.length = m * sz) (hy : a.eval y = .slice (some ad) m c)
    (hx : ∀ j u, news[j]? = some u → w.cell? (ad.add j) = some u) (h1 : ∀ u ∈ news, u.oneCell' = true) (hroom : n + m ≤ cap)
    (hK : ∀ w', w'.ownsRow base e sz (.slice (some ⟨g, 0, none⟩) (n + m) cap) (n + m) (xs ++ news) → w.grownBy w' (some g) → K (a.put o.dst (.slice (some ⟨g, 0, none⟩) (n + m) cap)) w') :
    if Region.wanted o (yielded ops a.tmps) = true then Oper.wp Try.prog o a w K Q else E := by
  have hw : Region.wanted o (yielded ops a.tmps) = true := by simp [Region.wanted, hgd]
  rw [if_pos hw]
  obtain ⟨hu, hi, hz, hp, hnb⟩ := hE
  obtain ⟨i0, hi0, hz0, hz1, hz2⟩ := info_parts hi
  obtain ⟨w', hrun, h2, h3⟩ := run_append_fits (P := Try.prog) (w := w) base t o.type e i0 sz hu hi0 hz1 g n cap xs hown ad m c news hl hx h1 hroom
  unfold Oper.wp
  simp [execOp, ho, resolve, invoke, builtin, hs, hy, hrun, Result.andThen]
  exact hK _ h2 h3
end

/-- The first part of a row of the call's own. -/
theorem owns_take_k {w : World} {base g n cap k sz : Nat} {e : TypeId} {xs : List Value} (h : w.ownsRow base e sz (.slice (some ⟨g, 0, none⟩) n cap) n xs) (hk : k ≤ n) : w.ownsRow base e sz (.slice (some ⟨g, 0, none⟩) k cap) k (xs.take (k * sz)) := by
  obtain ⟨hl, h⟩ := h
  have hks : k * sz ≤ n * sz := Nat.mul_le_mul_right _ hk
  refine ⟨by rw [List.length_take]; omega, ?_⟩
  rcases h with ⟨h, _⟩ | ⟨g', cap', cur, h, hb, hg, hc, hm, hs, ht⟩
  · cases h
  · simp only [Value.slice.injEq, Option.some.injEq, Addr.mk.injEq, and_true, true_and] at h
    obtain ⟨rfl, rfl⟩ := h
    refine Or.inr ⟨g, cap, cur, rfl, hb, hg, by omega, hm, hs, ?_⟩
    rw [← ht, List.take_take, Nat.min_eq_left hks]

/-- The cells behind a row, where there is room. -/
theorem owns_room {w : World} {base g n cap sz : Nat} {e : TypeId} {xs : List Value} (h : w.ownsRow base e sz (.slice (some ⟨g, 0, none⟩) n cap) n xs) {j : Nat} (hj : j < cap * sz) : (w.cell? ⟨g, j, none⟩).isSome = true ∧ w.frozen? ⟨g, j, none⟩ = false := by
  refine ⟨?_, h.frozenAt j⟩
  rcases h.2 with ⟨h, _⟩ | ⟨g', cap', cur, h, hb, hg, hc, hm, hs, ht⟩
  · cases h
  · simp only [Value.slice.injEq, Option.some.injEq, Addr.mk.injEq, and_true, true_and] at h
    obtain ⟨rfl, rfl⟩ := h
    rw [cell_of_row w g j cur e (0, 0) hg]
    simp [hs, hj]

/-- Behind the row's end cells are written. -/
theorem owns_behind {w : World} {base g n cap sz : Nat} {e : TypeId} {xs : List Value} (h : w.ownsRow base e sz (.slice (some ⟨g, 0, none⟩) n cap) n xs) {j : Nat} (hj : n * sz ≤ j) (u : Value) : (w.setCell ⟨g, j, none⟩ u).ownsRow base e sz (.slice (some ⟨g, 0, none⟩) n cap) n xs := by
  have hl := h.1
  have := (h.stored j u).1
  rwa [List.set_eq_of_length_le (by omega)] at this

theorem grown_trans {w w1 w2 : World} {r : Option Nat} (h1 : w.grownBy w1 r) (h2 : w1.grownBy w2 r) : w.grownBy w2 r :=
  ⟨h2.os.trans h1.os, h2.tape.trans h1.tape, h2.output.trans h1.output, Nat.le_trans h1.size h2.size, fun k hk hr => (h2.block k (Nat.lt_of_lt_of_le hk h1.size) hr).trans (h1.block k hk hr)⟩

theorem grown_drew (w : World) {w1 : World} {r : Option Nat} (h : w.drew.grownBy w1 r) : w.grownBy w1 r := ⟨h.os, h.tape, h.output, h.size, h.block⟩

theorem row_news {w : World} {base g n cap : Nat} {xs : List Value} (h : w.ownsRow base 40 2 (.slice (some ⟨g, 0, none⟩) n cap) n xs) (d : Nat) : ∀ j u, (xs.drop d)[j]? = some u → w.drew.cell? ((⟨g, d, none⟩ : Addr).add j) = some u := by
  intro j u hj
  rw [List.getElem?_drop] at hj
  have := h.cells rfl (d + j) u hj
  rw [Go.WideShapes.add_plain, Nat.zero_add] at this
  rw [Go.WideShapes.add_plain]
  exact this

/-- Cleared behind the end. -/
theorem del_done {w w1 : World} {base g n uc : Nat} {es : List PEnt} (hown : w1.ownsRow base 40 2 (.slice (some ⟨g, 0, none⟩) n uc) n (cellsE es)) (hn : es.length = n) (hs : smallE es) (hg : w.drew.grownBy w1 (some g)) (off : Nat) (ho : n * 2 ≤ off) :
    OwnE base (w1.setCells g off zeroE2) (.slice (some ⟨g, 0, none⟩) n uc) es ∧ w.grownBy (w1.setCells g off zeroE2) (some g) := by
  subst hn
  show OwnE base ((w1.setCell ⟨g, off, none⟩ (.int .i64 0)).setCell ⟨g, off + 1, none⟩ (.string ByteArray.empty)) _ es ∧ w.grownBy ((w1.setCell ⟨g, off, none⟩ (.int .i64 0)).setCell ⟨g, off + 1, none⟩ (.string ByteArray.empty)) (some g)
  exact ⟨⟨owns_behind (owns_behind hown ho _) (by omega) _, hs⟩, grown_trans (grown_trans (grown_drew w hg) (grown_setCell w1 ⟨g, off, none⟩ _)) (grown_setCell _ ⟨g, off + 1, none⟩ _)⟩

section
variable {ops : Array Oper} {o : Oper} {a : Act} {w : World} {K : Act → World → Prop} {Q : Exit → Act → World → Prop} {E : Prop}
/-- 'append' of nothing, wherever the nothing lies. -/
theorem step_append_zero {t e : TypeId} {z : Value} {sz nb : Nat} (hE : ElemK t e z sz nb) (hgd : o.guard = none) (s y : Operand) (ho : o.op = Op.call { callee := Callee.builtin Builtin.append, args := #[s, y], argTypes := #[t, t] })
    (base g n cap : Nat) (xs : List Value) (hs : a.eval s = .slice (some ⟨g, 0, none⟩) n cap) (hown : w.ownsRow base e sz (.slice (some ⟨g, 0, none⟩) n cap) n xs) (u v : Nat) (A B : Addr) (c : Nat) (hy : a.eval y = .slice (if u = v then some A else some B) 0 c) (hroom : n ≤ cap)
    (hK : ∀ w', w'.ownsRow base e sz (.slice (some ⟨g, 0, none⟩) n cap) n xs → w.grownBy w' (some g) → K (a.put o.dst (.slice (some ⟨g, 0, none⟩) n cap)) w') :
    if Region.wanted o (yielded ops a.tmps) = true then Oper.wp Try.prog o a w K Q else E := by
  by_cases h : u = v
  · rw [if_pos h] at hy
    refine step_append_fits hE hgd s y ho base g n cap xs hs hown A 0 c [] (by rw [Nat.zero_mul]; rfl) hy (by intro j q hq; simp at hq) (by intro q hq; simp at hq) hroom (fun w' h1 h2 => ?_)
    rw [List.append_nil] at h1
    exact hK w' h1 h2
  · rw [if_neg h] at hy
    refine step_append_fits hE hgd s y ho base g n cap xs hs hown B 0 c [] (by rw [Nat.zero_mul]; rfl) hy (by intro j q hq; simp at hq) (by intro q hq; simp at hq) hroom (fun w' h1 h2 => ?_)
    rw [List.append_nil] at h1
    exact hK w' h1 h2
end

set_option maxHeartbeats 800000 in
theorem del_10 (base g uc : Nat) (x : PEnt) (w : World) (h : OwnE base w (.slice (some ⟨g, 0, none⟩) 1 uc) [x]) (hcap : 1 ≤ uc) (hc2 : uc ≤ 9223372036854775807) :
    Calls Try.prog 38 #[.slice (some ⟨g, 0, none⟩) 1 uc, .int .i64 0, .int .i64 1] w fun e w' => ∃ u', e = .returned u' ∧ OwnE base w' u' [] ∧ w.grownBy w' (some g) := by
  have HO := Lib.hid h
  have HSM : Hid (smallE []) := Lib.hid (fun q hq => by cases hq)
  have i1 : (1 : Int) ≤ (uc : Int) := by omega
  clear h
  have b1 : (0 : Int) ≤ (uc : Int) := by omega
  have b2 : (1 : Int) ≤ (uc : Int) := by omega
  have b3 : ¬ uc = 0 := by omega
  go_enter Try.func38, Try.ntmps38
  go_wp2_with fail
  go_region_law (refine step_append_zero (o := ⟨some 26, _, _, _, _, _⟩) elemEntry rfl (.tmp 22) (.tmp 25) rfl base g 0 uc ((cellsE [x]).take (0 * 2)) rfl (owns_drew (owns_take_k HO.out.1 (by decide))) uc 1 ⟨g, 0, none⟩ ⟨g, 2, none⟩ (uc - 1) rfl (by omega) ?_; intro w1 hown hg; have HOWN : Hid (w1.ownsRow base 40 2 (.slice (some ⟨g, 0, none⟩) 0 uc) 0 (cellsE [])) := Lib.hid hown; have HG := Lib.hid hg; clear hown hg)
  all_goals
    have HRM : Hid (∀ j, j < 2 → (w1.cell? ⟨g, 0 + j, none⟩).isSome = true ∧ w1.frozen? ⟨g, 0 + j, none⟩ = false) := Lib.hid (fun j hj => owns_room HOWN.out (by omega))
    go_wp2_with (refine wp_clear_ent rfl (.tmp 31) rfl g 0 _ rfl (fun j hj => (HRM.out j hj).1) (fun j hj => (HRM.out j hj).2) ?_)
    all_goals
      go_ret
      have hd := del_done HOWN.out rfl HSM.out HG.out 0 (by decide)
      first | exact ⟨_, rfl, hd.1, hd.2⟩ | (have hu : uc = 1 := (by assumption); exact ⟨.slice (some ⟨g, 0, none⟩) 0 uc, (by rw [hu]; rfl), hd.1, hd.2⟩)

set_option maxHeartbeats 800000 in
theorem del_20 (base g uc : Nat) (x y : PEnt) (w : World) (h : OwnE base w (.slice (some ⟨g, 0, none⟩) 2 uc) [x, y]) (hcap : 2 ≤ uc) (hc2 : uc ≤ 9223372036854775807) :
    Calls Try.prog 38 #[.slice (some ⟨g, 0, none⟩) 2 uc, .int .i64 0, .int .i64 1] w fun e w' => ∃ u', e = .returned u' ∧ OwnE base w' u' [y] ∧ w.grownBy w' (some g) := by
  have HO := Lib.hid h
  have HSM : Hid (smallE [y]) := Lib.hid (fun q hq => h.2 q (by simp at hq ⊢; subst hq; simp))
  have i1 : (2 : Int) ≤ (uc : Int) := by omega
  clear h
  have i3 : ¬ uc = 1 := by omega
  have b1 : (0 : Int) ≤ (uc : Int) := by omega
  have b2 : (1 : Int) ≤ (uc : Int) := by omega
  have b3 : ¬ uc = 1 := by omega
  go_enter Try.func38, Try.ntmps38
  go_wp2_with fail
  go_region_law (refine step_append_fits (o := ⟨some 26, _, _, _, _, _⟩) elemEntry rfl (.tmp 22) (.tmp 25) rfl base g 0 uc ((cellsE [x, y]).take (0 * 2)) rfl (owns_drew (owns_take_k HO.out.1 (by decide))) ⟨g, 2, none⟩ 1 (uc - 1) ((cellsE [x, y]).drop 2) rfl rfl (row_news HO.out.1 2) (fun q hq => cellsE_one [x, y] q (List.mem_of_mem_drop hq)) (by omega) ?_; intro w1 hown hg; have HOWN : Hid (w1.ownsRow base 40 2 (.slice (some ⟨g, 0, none⟩) 1 uc) 1 (cellsE [y])) := Lib.hid hown; have HG := Lib.hid hg; clear hown hg)
  all_goals
    have HRM : Hid (∀ j, j < 2 → (w1.cell? ⟨g, 2 + j, none⟩).isSome = true ∧ w1.frozen? ⟨g, 2 + j, none⟩ = false) := Lib.hid (fun j hj => owns_room HOWN.out (by omega))
    go_wp2_with (refine wp_clear_ent rfl (.tmp 31) rfl g 2 _ rfl (fun j hj => (HRM.out j hj).1) (fun j hj => (HRM.out j hj).2) ?_)
    all_goals
      go_ret
      have hd := del_done HOWN.out rfl HSM.out HG.out 2 (by decide)
      first | exact ⟨_, rfl, hd.1, hd.2⟩ | (have hu : uc = 1 := (by assumption); exact ⟨.slice (some ⟨g, 0, none⟩) 1 uc, (by rw [hu]; rfl), hd.1, hd.2⟩)

set_option maxHeartbeats 800000 in
theorem del_21 (base g uc : Nat) (x y : PEnt) (w : World) (h : OwnE base w (.slice (some ⟨g, 0, none⟩) 2 uc) [x, y]) (hcap : 2 ≤ uc) (hc2 : uc ≤ 9223372036854775807) :
    Calls Try.prog 38 #[.slice (some ⟨g, 0, none⟩) 2 uc, .int .i64 1, .int .i64 2] w fun e w' => ∃ u', e = .returned u' ∧ OwnE base w' u' [x] ∧ w.grownBy w' (some g) := by
  have HO := Lib.hid h
  have HSM : Hid (smallE [x]) := Lib.hid (fun q hq => h.2 q (by simp at hq ⊢; subst hq; simp))
  have i1 : (2 : Int) ≤ (uc : Int) := by omega
  clear h
  have b1 : (1 : Int) ≤ (uc : Int) := by omega
  have b2 : (2 : Int) ≤ (uc : Int) := by omega
  have b3 : ¬ uc = 1 := by omega
  go_enter Try.func38, Try.ntmps38
  go_wp2_with fail
  go_region_law (refine step_append_zero (o := ⟨some 26, _, _, _, _, _⟩) elemEntry rfl (.tmp 22) (.tmp 25) rfl base g 1 uc ((cellsE [x, y]).take (1 * 2)) rfl (owns_drew (owns_take_k HO.out.1 (by decide))) uc 2 ⟨g, 0, none⟩ ⟨g, 4, none⟩ (uc - 2) rfl (by omega) ?_; intro w1 hown hg; have HOWN : Hid (w1.ownsRow base 40 2 (.slice (some ⟨g, 0, none⟩) 1 uc) 1 (cellsE [x])) := Lib.hid hown; have HG := Lib.hid hg; clear hown hg)
  all_goals
    have HRM : Hid (∀ j, j < 2 → (w1.cell? ⟨g, 2 + j, none⟩).isSome = true ∧ w1.frozen? ⟨g, 2 + j, none⟩ = false) := Lib.hid (fun j hj => owns_room HOWN.out (by omega))
    go_wp2_with (refine wp_clear_ent rfl (.tmp 31) rfl g 2 _ rfl (fun j hj => (HRM.out j hj).1) (fun j hj => (HRM.out j hj).2) ?_)
    all_goals
      go_ret
      have hd := del_done HOWN.out rfl HSM.out HG.out 2 (by decide)
      first | exact ⟨_, rfl, hd.1, hd.2⟩ | (have hu : uc = 2 := (by assumption); exact ⟨.slice (some ⟨g, 0, none⟩) 1 uc, (by rw [hu]; rfl), hd.1, hd.2⟩)

set_option maxHeartbeats 800000 in
theorem del_30 (base g uc : Nat) (x y z : PEnt) (w : World) (h : OwnE base w (.slice (some ⟨g, 0, none⟩) 3 uc) [x, y, z]) (hcap : 3 ≤ uc) (hc2 : uc ≤ 9223372036854775807) :
    Calls Try.prog 38 #[.slice (some ⟨g, 0, none⟩) 3 uc, .int .i64 0, .int .i64 1] w fun e w' => ∃ u', e = .returned u' ∧ OwnE base w' u' [y, z] ∧ w.grownBy w' (some g) := by
  have HO := Lib.hid h
  have HSM : Hid (smallE [y, z]) := Lib.hid (fun q hq => h.2 q (by simp at hq ⊢; rcases hq with rfl | rfl <;> simp))
  have i1 : (3 : Int) ≤ (uc : Int) := by omega
  clear h
  have i3 : ¬ uc = 1 := by omega
  have b1 : (0 : Int) ≤ (uc : Int) := by omega
  have b2 : (1 : Int) ≤ (uc : Int) := by omega
  have b3 : ¬ uc = 2 := by omega
  go_enter Try.func38, Try.ntmps38
  go_wp2_with fail
  go_region_law (refine step_append_fits (o := ⟨some 26, _, _, _, _, _⟩) elemEntry rfl (.tmp 22) (.tmp 25) rfl base g 0 uc ((cellsE [x, y, z]).take (0 * 2)) rfl (owns_drew (owns_take_k HO.out.1 (by decide))) ⟨g, 2, none⟩ 2 (uc - 1) ((cellsE [x, y, z]).drop 2) rfl rfl (row_news HO.out.1 2) (fun q hq => cellsE_one [x, y, z] q (List.mem_of_mem_drop hq)) (by omega) ?_; intro w1 hown hg; have HOWN : Hid (w1.ownsRow base 40 2 (.slice (some ⟨g, 0, none⟩) 2 uc) 2 (cellsE [y, z])) := Lib.hid hown; have HG := Lib.hid hg; clear hown hg)
  all_goals
    have HRM : Hid (∀ j, j < 2 → (w1.cell? ⟨g, 4 + j, none⟩).isSome = true ∧ w1.frozen? ⟨g, 4 + j, none⟩ = false) := Lib.hid (fun j hj => owns_room HOWN.out (by omega))
    go_wp2_with (refine wp_clear_ent rfl (.tmp 31) rfl g 4 _ rfl (fun j hj => (HRM.out j hj).1) (fun j hj => (HRM.out j hj).2) ?_)
    all_goals
      go_ret
      have hd := del_done HOWN.out rfl HSM.out HG.out 4 (by decide)
      first | exact ⟨_, rfl, hd.1, hd.2⟩ | (have hu : uc = 1 := (by assumption); exact ⟨.slice (some ⟨g, 0, none⟩) 2 uc, (by rw [hu]; rfl), hd.1, hd.2⟩)

set_option maxHeartbeats 800000 in
theorem del_31 (base g uc : Nat) (x y z : PEnt) (w : World) (h : OwnE base w (.slice (some ⟨g, 0, none⟩) 3 uc) [x, y, z]) (hcap : 3 ≤ uc) (hc2 : uc ≤ 9223372036854775807) :
    Calls Try.prog 38 #[.slice (some ⟨g, 0, none⟩) 3 uc, .int .i64 1, .int .i64 2] w fun e w' => ∃ u', e = .returned u' ∧ OwnE base w' u' [x, z] ∧ w.grownBy w' (some g) := by
  have HO := Lib.hid h
  have HSM : Hid (smallE [x, z]) := Lib.hid (fun q hq => h.2 q (by simp at hq ⊢; rcases hq with rfl | rfl <;> simp))
  have i1 : (3 : Int) ≤ (uc : Int) := by omega
  clear h
  have i3 : ¬ uc = 2 := by omega
  have b1 : (1 : Int) ≤ (uc : Int) := by omega
  have b2 : (2 : Int) ≤ (uc : Int) := by omega
  have b3 : ¬ uc = 2 := by omega
  go_enter Try.func38, Try.ntmps38
  go_wp2_with fail
  go_region_law (refine step_append_fits (o := ⟨some 26, _, _, _, _, _⟩) elemEntry rfl (.tmp 22) (.tmp 25) rfl base g 1 uc ((cellsE [x, y, z]).take (1 * 2)) rfl (owns_drew (owns_take_k HO.out.1 (by decide))) ⟨g, 4, none⟩ 1 (uc - 2) ((cellsE [x, y, z]).drop 4) rfl rfl (row_news HO.out.1 4) (fun q hq => cellsE_one [x, y, z] q (List.mem_of_mem_drop hq)) (by omega) ?_; intro w1 hown hg; have HOWN : Hid (w1.ownsRow base 40 2 (.slice (some ⟨g, 0, none⟩) 2 uc) 2 (cellsE [x, z])) := Lib.hid hown; have HG := Lib.hid hg; clear hown hg)
  all_goals
    have HRM : Hid (∀ j, j < 2 → (w1.cell? ⟨g, 4 + j, none⟩).isSome = true ∧ w1.frozen? ⟨g, 4 + j, none⟩ = false) := Lib.hid (fun j hj => owns_room HOWN.out (by omega))
    go_wp2_with (refine wp_clear_ent rfl (.tmp 31) rfl g 4 _ rfl (fun j hj => (HRM.out j hj).1) (fun j hj => (HRM.out j hj).2) ?_)
    all_goals
      go_ret
      have hd := del_done HOWN.out rfl HSM.out HG.out 4 (by decide)
      first | exact ⟨_, rfl, hd.1, hd.2⟩ | (have hu : uc = 2 := (by assumption); exact ⟨.slice (some ⟨g, 0, none⟩) 2 uc, (by rw [hu]; rfl), hd.1, hd.2⟩)

set_option maxHeartbeats 800000 in
theorem del_32 (base g uc : Nat) (x y z : PEnt) (w : World) (h : OwnE base w (.slice (some ⟨g, 0, none⟩) 3 uc) [x, y, z]) (hcap : 3 ≤ uc) (hc2 : uc ≤ 9223372036854775807) :
    Calls Try.prog 38 #[.slice (some ⟨g, 0, none⟩) 3 uc, .int .i64 2, .int .i64 3] w fun e w' => ∃ u', e = .returned u' ∧ OwnE base w' u' [x, y] ∧ w.grownBy w' (some g) := by
  have HO := Lib.hid h
  have HSM : Hid (smallE [x, y]) := Lib.hid (fun q hq => h.2 q (by simp at hq ⊢; rcases hq with rfl | rfl <;> simp))
  have i1 : (3 : Int) ≤ (uc : Int) := by omega
  clear h
  have b1 : (2 : Int) ≤ (uc : Int) := by omega
  have b2 : (3 : Int) ≤ (uc : Int) := by omega
  have b3 : ¬ uc = 2 := by omega
  go_enter Try.func38, Try.ntmps38
  go_wp2_with fail
  go_region_law (refine step_append_zero (o := ⟨some 26, _, _, _, _, _⟩) elemEntry rfl (.tmp 22) (.tmp 25) rfl base g 2 uc ((cellsE [x, y, z]).take (2 * 2)) rfl (owns_drew (owns_take_k HO.out.1 (by decide))) uc 3 ⟨g, 0, none⟩ ⟨g, 6, none⟩ (uc - 3) rfl (by omega) ?_; intro w1 hown hg; have HOWN : Hid (w1.ownsRow base 40 2 (.slice (some ⟨g, 0, none⟩) 2 uc) 2 (cellsE [x, y])) := Lib.hid hown; have HG := Lib.hid hg; clear hown hg)
  all_goals
    have HRM : Hid (∀ j, j < 2 → (w1.cell? ⟨g, 4 + j, none⟩).isSome = true ∧ w1.frozen? ⟨g, 4 + j, none⟩ = false) := Lib.hid (fun j hj => owns_room HOWN.out (by omega))
    go_wp2_with (refine wp_clear_ent rfl (.tmp 31) rfl g 4 _ rfl (fun j hj => (HRM.out j hj).1) (fun j hj => (HRM.out j hj).2) ?_)
    all_goals
      go_ret
      have hd := del_done HOWN.out rfl HSM.out HG.out 4 (by decide)
      first | exact ⟨_, rfl, hd.1, hd.2⟩ | (have hu : uc = 3 := (by assumption); exact ⟨.slice (some ⟨g, 0, none⟩) 2 uc, (by rw [hu]; rfl), hd.1, hd.2⟩)

/-- Of at most three entries one is taken out. -/
theorem del_any (base : Nat) (u : Value) (es : List PEnt) (k : Nat) (w : World) (h : OwnE base w u es) (hk : k < es.length) (h3 : es.length ≤ 3) :
    Calls Try.prog 38 #[u, .int .i64 (k : Int), .int .i64 ((k : Int) + 1)] w fun e w' => ∃ u', e = .returned u' ∧ OwnE base w' u' (es.eraseIdx k) ∧ w.grownBy w' u.ownBlock := by
  obtain ⟨g, cap, rfl, _, _⟩ := h.1.form (by omega)
  have hc : es.length ≤ cap ∧ cap ≤ 9223372036854775807 := by
    rcases h.1.2 with ⟨h', _⟩ | ⟨g', cap', cur, h', _, _, hc, hm, _⟩
    · cases h'
    · simp only [Value.slice.injEq, Option.some.injEq, Addr.mk.injEq, and_true, true_and] at h'
      unfold maxLen at hm
      omega
  match es, k, hk, h3, h, hc with
  | [x], 0, _, _, h, hc => exact del_10 base g cap x w h hc.1 hc.2
  | [x, y], 0, _, _, h, hc => exact del_20 base g cap x y w h hc.1 hc.2
  | [x, y], 1, _, _, h, hc => exact del_21 base g cap x y w h hc.1 hc.2
  | [x, y, z], 0, _, _, h, hc => exact del_30 base g cap x y z w h hc.1 hc.2
  | [x, y, z], 1, _, _, h, hc => exact del_31 base g cap x y z w h hc.1 hc.2
  | [x, y, z], 2, _, _, h, hc => exact del_32 base g cap x y z w h hc.1 hc.2
  | _ :: _ :: _ :: _ :: _, _, _, h3, _, _ => exact absurd h3 (by simp only [List.length_cons]; omega)
  | [x], k + 1, hk, _, _, _ => exact absurd hk (by simp only [List.length_cons, List.length_nil]; omega)
  | [x, y], k + 2, hk, _, _, _ => exact absurd hk (by simp only [List.length_cons, List.length_nil]; omega)
  | [x, y, z], k + 3, hk, _, _, _ => exact absurd hk (by simp only [List.length_cons, List.length_nil]; omega)

end Go.Proofs.Ytkpgefjbhimmgaa
