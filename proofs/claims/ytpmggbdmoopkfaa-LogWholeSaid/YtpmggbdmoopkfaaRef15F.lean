/-
  Proved here: what the document's own Find of a log answers.
  The conditions stand at each theorem.
-/
import Derived.Test.YtpmggbdmoopkfaaRef15G
import Derived.Test.YtpmggbdmoopkfaaLogF
import Derived.Test.YtpmggbdmoopkfaaWs
import Derived.Test.YtpmggbdmoopkfaaRowsB
import Derived.Deep.RegionHeld3
namespace Go.Proofs.Ytpmggbdmoopkfaa
open Go.RowKit
set_option linter.unusedVariables false
set_option linter.unusedSimpArgs false

/-- What Find hands back. -/
def foundOut (bs : List (List Int)) (a s : Int) : List (List (Int × List Int)) × Int × Int := if okLog bs a s = true then ((findF bs a.toNat s).1, ((findF bs a.toNat s).2.1 : Int), (findF bs a.toNat s).2.2) else ([], 0, 0)
def foundErr (bs : List (List Int)) (a s : Int) : Int := if okLog bs a s = true then 0 else 2
def HandedF (base : Nat) (w0 : World) (r : List (List (Int × List Int)) × Int × Int) (err : Int) (e : Ending) (w' : World) : Prop :=
  ∃ ao cap, e = .returned (.tuple #[.slice ao r.1.length cap, .agg #[.int .i64 r.2.1, .int .i64 r.2.2], .int .i64 err]) ∧ LIs w' ao r.1.length r.1 ∧ Below base w0 w'

theorem results_tct {fn : Func} {p u x : Tmp} {ty : TypeId} (h : fn.results = #[.tmp u, .cell p ty, .tmp x]) (tmps : Array Value) (P : Program) (w : World) :
    (results fn tmps).run P w =
      ((asAddr (tmps.getD p undef)).run P w).andThen fun a w₁ => ((loadVar ty a).run P w₁).andThen fun v w₂ => .ok (.tuple #[tmps.getD u undef, v, tmps.getD x undef]) w₂ := by
  simp only [results, h]
  simp [Sem.run_bind, Result.andThen]

theorem LIs.nil (w : World) : LIs w none 0 [] := ⟨rfl, Or.inl rfl⟩

theorem okLog_false {Z : List (List Int)} {a s : Int} (h : ¬ (Z.length = 40 ∧ 0 ≤ a ∧ a ≤ 39 ∧ 1 ≤ s ∧ s ≤ 1073741824)) : foundErr Z a s = 2 ∧ foundOut Z a s = ([], 0, 0) := by
  have e : okLog Z a s = false := by unfold okLog; rw [decide_eq_false h]; rfl
  unfold foundErr foundOut
  rw [e]
  exact ⟨rfl, rfl⟩
theorem okLog_short {Z : List (List Int)} {a s : Int} {j : Nat} (hj : j < Z.length) (h : (Z.getD j []).length ≠ 64) : foundErr Z a s = 2 ∧ foundOut Z a s = ([], 0, 0) := by
  have e : okLog Z a s = false := by
    cases h2 : okLog Z a s with
    | false => rfl
    | true =>
      unfold okLog at h2
      rw [Bool.and_eq_true] at h2
      have h3 := List.all_eq_true.1 h2.2 (Z.getD j []) (by rw [List.getD_eq_getElem?_getD, List.getElem?_eq_getElem hj]; exact List.getElem_mem _)
      exact absurd (of_decide_eq_true h3) h
  unfold foundErr foundOut
  rw [e]
  exact ⟨rfl, rfl⟩

theorem step_append_at {t e : TypeId} {z : Value} {sz nb : Nat} (hE : ElemR t e z sz nb) {ops : Array Oper} {o : Oper} {a : Act} {w : World} {K : Act → World → Prop} {Q : Exit → Act → World → Prop} {E : Prop} (hgd : o.guard = none) (s y : Operand) (ho : o.op = Op.call { callee := Callee.builtin Builtin.append, args := #[s, y], argTypes := #[t, t] })
    (base n : Nat) (v : Value) (xs : List Value) (hs : a.eval s = v) (hown : w.ownsRow base e sz v n xs) (ad : Addr) (m c : Nat) (news : List Value) (hl : news.length = m * sz) (hm : 0 < m) (hy : a.eval y = .slice (some ad) m c)
    (hx : ∀ j u, news[j]? = some u → w.cell? (ad.add j) = some u) (h1 : ∀ u ∈ news, u.oneCell' = true) (hb : n + m ≤ 2000000000) (hbase : base ≤ w.heap.size)
    (h : ∀ v' w', w'.ownsRow base e sz v' (n + m) (xs ++ news) → w.grownBy w' v.ownBlock → Below base w w' → (v'.ownBlock = v.ownBlock ∨ v'.ownBlock = some w.heap.size) → K (a.put o.dst v') w') :
    if Region.wanted o (yielded ops a.tmps) = true then Oper.wp Try.prog o a w K Q else E := by
  have hw : Region.wanted o (yielded ops a.tmps) = true := by simp [Region.wanted, hgd]
  rw [if_pos hw]
  have hE2 := hE
  obtain ⟨hu, hi, hz, hp, hnb⟩ := hE
  obtain ⟨i0, hi0, hz0, hz1, hz2⟩ := info_parts hi
  obtain ⟨v', w', hrun, h2, h3, _⟩ := run_append_own (P := Try.prog) w base t o.type e i0 z sz nb hu hi0 hz0 hz1 hz2 hz hp v n xs hown ad m c news hl hx h1
      (by unfold maxLen; omega) (by have : (n + m) * nb ≤ 2000000000 * 64 := Nat.mul_le_mul (by omega) hnb
                                    omega) hbase
  have h4 := append_block hE2 w o.type base n v v' w' xs hown ad m c news hl hx h1 hb hm hrun
  unfold Oper.wp
  simp [execOp, ho, resolve, invoke, builtin, hs, hy, hrun, Result.andThen]
  exact h v' w' h2 h3 ((Below.refl base w).grown h3 hbase (fun k hk => (hown.lt k hk).1)) h4

theorem news_f (w : World) (L : List Value) (T : TypeId) : ∀ (j : Nat) (u : Value), L[j]? = some u → (w.alloc (.cells L.toArray T)).cell? ((⟨w.heap.size, 0, none⟩ : Addr).add j) = some u := by
  intro j u hj
  rw [Go.WideShapes.add_plain, Nat.zero_add, World.cell?_alloc_new]
  simpa using hj

/-- What a transaction writes. -/
def txL (Z : List (List Int)) (to : List Int) (a m : Nat) : List (Int × List Int) := (List.range m).map fun i => (to.getD i 0, Z.getD ((a + 1 + i) % 40) [])
theorem txL_length (Z : List (List Int)) (to : List Int) (a m : Nat) : (txL Z to a m).length = m := by unfold txL; rw [List.length_map, List.length_range]
theorem txL_step (Z : List (List Int)) (to : List Int) (a m i : Nat) (h : i < m) : (txL Z to a m).take (i + 1) = (txL Z to a m).take i ++ [(to.getD i 0, Z.getD ((a + 1 + i) % 40) [])] := by
  have e : (txL Z to a m)[i]? = some (to.getD i 0, Z.getD ((a + 1 + i) % 40) []) := by unfold txL; rw [List.getElem?_map, List.getElem?_range h]; rfl
  rw [List.take_add_one, e]
  rfl

theorem findF_none {Z : List (List Int)} {a : Nat} {s : Int} (h : txAt Z a s = none) : findF Z a s = ([], a, s) := by
  unfold findF
  cases (1073741824 - s).toNat with
  | zero => rfl
  | succ k => unfold findL; rw [h]
theorem findF_end {Z : List (List Int)} {a : Nat} {s : Int} (h : 1073741824 ≤ s) : findF Z a s = ([], a, s) := by
  unfold findF
  rw [show (1073741824 - s).toNat = 0 by omega]
  rfl
theorem findF_some {Z : List (List Int)} {a : Nat} {s : Int} {l : List (Int × List Int)} (h : txAt Z a s = some l) (hs : s < 1073741824) : findF Z a s = (l :: (findF Z ((a + (l.length + 2)) % 40) (s + 1)).1, (findF Z ((a + (l.length + 2)) % 40) (s + 1)).2) := by
  unfold findF
  rw [show (1073741824 - s).toNat = (1073741824 - (s + 1)).toNat + 1 by omega]
  conv => lhs; unfold findL
  rw [h]

/-- The head's variable, and the answer's. -/
def FVar (w : World) (a s : Int) (wr : World) : Prop :=
  Below w.heap.size w wr ∧ wr.cell? ⟨w.heap.size, 0, none⟩ = some (.int .i64 a) ∧ wr.cell? ⟨w.heap.size, 1, none⟩ = some (.int .i64 s) ∧ wr.cell? ⟨w.heap.size + 1, 0, none⟩ = some (.int .i64 0) ∧ wr.cell? ⟨w.heap.size + 1, 1, none⟩ = some (.int .i64 0) ∧
    (∀ j, wr.frozen? ⟨w.heap.size, j, none⟩ = false) ∧ ∀ j, wr.frozen? ⟨w.heap.size + 1, j, none⟩ = false
theorem FVar.lt {w wr : World} {a s : Int} (h : FVar w a s wr) : w.heap.size + 1 < wr.heap.size := World.block_lt_of_cell? _ _ h.2.2.2.1
theorem FVar.under {w wr wx : World} {a s : Int} {base : Nat} (h : FVar w a s wr) (hb : Below base wr wx) (hg : w.heap.size + 1 < base) : FVar w a s wx :=
  ⟨h.1.trans (hb.mono (by omega)), cell_under hb h.2.1 (by show w.heap.size < base; omega), cell_under hb h.2.2.1 (by show w.heap.size < base; omega), cell_under hb h.2.2.2.1 hg, cell_under hb h.2.2.2.2.1 hg, frozen_under hb h.2.2.2.2.2.1 (by omega), frozen_under hb h.2.2.2.2.2.2 hg⟩
theorem FVar.later {w wr wx : World} {a s : Int} (h : FVar w a s wr) (hb : Below wr.heap.size wr wx) : FVar w a s wx := h.under hb h.lt
theorem FVar.set {w wr : World} {a s a' s' : Int} (h : FVar w a s wr) : FVar w a' s' ((wr.setCell ⟨w.heap.size, 0, none⟩ (.int .i64 a')).setCell ⟨w.heap.size, 1, none⟩ (.int .i64 s')) := by
  obtain ⟨h1, h2, h3, h4, h5, h6, h7⟩ := h
  refine ⟨(h1.setCell (Nat.le_refl _) _).setCell (Nat.le_refl _) _, ?_, ?_, ?_, ?_, fun j => by simpa using h6 j, fun j => by simpa using h7 j⟩
  · rw [World.cell?_setCell_other (h := by simp)]
    exact World.cell?_setCell_same wr _ _ h2
  · have e : (wr.setCell ⟨w.heap.size, 0, none⟩ (.int .i64 a')).cell? ⟨w.heap.size, 1, none⟩ = some (.int .i64 s) := by
      rw [World.cell?_setCell_other (h := by simp)]
      exact h3
    exact World.cell?_setCell_same _ _ _ e
  · rw [World.cell?_setCell_other (h := by simp), World.cell?_setCell_other (h := by simp)]
    exact h4
  · rw [World.cell?_setCell_other (h := by simp), World.cell?_setCell_other (h := by simp)]
    exact h5

def seqOf (g : Nat) (wr : World) : Nat := match wr.cell? ⟨g, 1, none⟩ with
  | some (.int _ n) => (1073741824 - n).toNat
  | _ => 0

theorem seqOf_eq {w W : World} {a q : Int} (h : FVar w a q W) : seqOf w.heap.size W = (1073741824 - q).toNat := by
  unfold seqOf
  rw [h.2.2.1]

set_option maxRecDepth 100000 in
set_option maxHeartbeats 6400000 in
theorem RFind_any {w : World} {ao : Option Addr} {len cap : Nat} {Z : List (List Int)} (at_ s : Int) (hR : RowsIn w ao len cap Z) :
    Calls Try.prog 20 #[.slice ao len cap, .agg #[.int .i64 at_, .int .i64 s]] w (HandedF w.heap.size w (foundOut Z at_ s) (foundErr Z at_ s)) := by
  have HR := Lib.hid hR
  have HL := Lib.hid hR.1
  obtain ⟨A0, hA0⟩ : ∃ A0, (w.alloc (.cells #[.int .i64 at_, .int .i64 s] 40)).alloc (.cells #[.int .i64 0, .int .i64 0] 40) = A0 := ⟨_, rfl⟩
  have B0 : Hid (Below w.heap.size w A0) := Lib.hid (by rw [← hA0]; exact ((Below.refl _ _).alloc (Nat.le_refl _) _).alloc (by simp) _)
  have h00 : A0.cell? ⟨w.heap.size, 0, none⟩ = some (.int .i64 at_) := by rw [← hA0]; refine cell_later ((Below.refl _ _).alloc (Nat.le_refl _) _) ?_; rw [World.cell?_alloc_new]; rfl
  have h01 : A0.cell? ⟨w.heap.size, 1, none⟩ = some (.int .i64 s) := by rw [← hA0]; refine cell_later ((Below.refl _ _).alloc (Nat.le_refl _) _) ?_; rw [World.cell?_alloc_new]; rfl
  have h10 : A0.cell? ⟨w.heap.size + 1, 0, none⟩ = some (.int .i64 0) := by rw [← hA0, ← World.size_alloc w (.cells #[.int .i64 at_, .int .i64 s] 40), World.cell?_alloc_new]; rfl
  have h11 : A0.cell? ⟨w.heap.size + 1, 1, none⟩ = some (.int .i64 0) := by rw [← hA0, ← World.size_alloc w (.cells #[.int .i64 at_, .int .i64 s] 40), World.cell?_alloc_new]; rfl
  have fr0 : ∀ j, A0.frozen? ⟨w.heap.size, j, none⟩ = false := fun j => by
    rw [← hA0, (show Below (w.alloc (.cells #[.int .i64 at_, .int .i64 s] 40)).heap.size _ _ from (Below.refl _ _).alloc (Nat.le_refl _) _).frozen (p := ⟨w.heap.size, j, none⟩) (by simp), World.frozen?_alloc_mark]; simp
  have fr1 : ∀ j, A0.frozen? ⟨w.heap.size + 1, j, none⟩ = false := fun j => by
    rw [← hA0, ← World.size_alloc w (.cells #[.int .i64 at_, .int .i64 s] 40), World.frozen?_alloc_mark]; simp
  clear hR
  by_cases hH : len = 40 ∧ 0 ≤ at_ ∧ at_ ≤ 39 ∧ 1 ≤ s ∧ s ≤ 1073741824
  case neg =>
    have HE := Lib.hid (okLog_false (Z := Z) (a := at_) (s := s) (by rw [HL.out]; exact hH))
    have HN := Lib.hid hH
    clear hH hA0
    by_cases c1 : len = 40
    case neg =>
      have hne : ((len : Int) != 40) = true := by simp; omega
      go_enter Try.func20, Try.ntmps20
      go_wp2_with fail
      refine bodyPost_ret (v := .tuple #[.slice none 0 0, .agg #[.int .i64 0, .int .i64 0], .int .i64 2]) ?_ rfl ⟨none, 0, by rw [HE.out.1, HE.out.2]; rfl, by rw [HE.out.2]; exact LIs.nil _, ((Below.refl _ _).alloc (Nat.le_refl _) _).alloc (by simp) _⟩
      rw [results_tct rfl]
      go_simp
      try rfl
    subst c1
    by_cases c2 : at_ < 0
    · clear HN
      go_enter Try.func20, Try.ntmps20
      go_wp2_with fail
      refine bodyPost_ret (v := .tuple #[.slice none 0 0, .agg #[.int .i64 0, .int .i64 0], .int .i64 2]) ?_ rfl ⟨none, 0, by rw [HE.out.1, HE.out.2]; rfl, by rw [HE.out.2]; exact LIs.nil _, ((Below.refl _ _).alloc (Nat.le_refl _) _).alloc (by simp) _⟩
      rw [results_tct rfl]
      go_simp
      try rfl
    by_cases c3 : 39 < at_
    · clear HN
      go_enter Try.func20, Try.ntmps20
      go_wp2_with fail
      refine bodyPost_ret (v := .tuple #[.slice none 0 0, .agg #[.int .i64 0, .int .i64 0], .int .i64 2]) ?_ rfl ⟨none, 0, by rw [HE.out.1, HE.out.2]; rfl, by rw [HE.out.2]; exact LIs.nil _, ((Below.refl _ _).alloc (Nat.le_refl _) _).alloc (by simp) _⟩
      rw [results_tct rfl]
      go_simp
      try rfl
    by_cases c4 : s < 1
    · clear HN
      go_enter Try.func20, Try.ntmps20
      go_wp2_with fail
      refine bodyPost_ret (v := .tuple #[.slice none 0 0, .agg #[.int .i64 0, .int .i64 0], .int .i64 2]) ?_ rfl ⟨none, 0, by rw [HE.out.1, HE.out.2]; rfl, by rw [HE.out.2]; exact LIs.nil _, ((Below.refl _ _).alloc (Nat.le_refl _) _).alloc (by simp) _⟩
      rw [results_tct rfl]
      go_simp
      try rfl
    have c5 : 1073741824 < s := by have := HN.out; omega
    clear HN
    go_enter Try.func20, Try.ntmps20
    go_wp2_with fail
    refine bodyPost_ret (v := .tuple #[.slice none 0 0, .agg #[.int .i64 0, .int .i64 0], .int .i64 2]) ?_ rfl ⟨none, 0, by rw [HE.out.1, HE.out.2]; rfl, by rw [HE.out.2]; exact LIs.nil _, ((Below.refl _ _).alloc (Nat.le_refl _) _).alloc (by simp) _⟩
    rw [results_tct rfl]
    go_simp
    try rfl
  obtain ⟨rfl, c1, c2, c3, c4⟩ := hH
  have Hc : Hid (0 ≤ at_ ∧ at_ ≤ 39 ∧ 1 ≤ s ∧ s ≤ 1073741824) := Lib.hid ⟨c1, c2, c3, c4⟩
  go_enter Try.func20, Try.ntmps20
  go_wp2_with fail
  clear hA0
  go_loop [7] (fun iv => ∃ i : Nat, iv = .int .i64 (i : Int) ∧ i ≤ 40 ∧ Hid (∀ j, j < i → (Z.getD j []).length = 64)) (fun iv => 40 - (intOf iv).toNat)
  case atStart => exact ⟨0, rfl, Nat.zero_le _, Lib.hid (fun j hj => by omega)⟩
  case round =>
    obtain ⟨i, rfl, hi, HI⟩ := hrel
    by_cases hlt : i < 40
    · obtain ⟨b, off, ad, l, c, rfl, hc, hB⟩ := HR.out.at hlt
      have d1 := cell_later B0.out hc
      have i1 : (i : Int) < 40 := by omega
      have HB := Lib.hid hB.1
      clear hc hB
      by_cases h64 : l = 64
      · subst h64
        go_wp2_with fail
        go_round
        case rel => exact ⟨i + 1, by go_num, by omega, Lib.hid (fun j hj => by
          by_cases e : j = i
          · subst e; exact HB.out
          · exact HI.out j (by omega))⟩
        case measure => simp [intOf]; omega
      · have HE := Lib.hid (okLog_short (Z := Z) (a := at_) (s := s) (j := i) (by rw [HL.out]; exact hlt) (by rw [HB.out]; exact h64))
        have hne : ((l : Int) != 64) = true := by simp; omega
        go_wp2_with fail
        refine bodyPost_ret (v := .tuple #[.slice none 0 0, .agg #[.int .i64 0, .int .i64 0], .int .i64 2]) ?_ rfl ⟨none, 0, by rw [HE.out.1, HE.out.2]; rfl, by rw [HE.out.2]; exact LIs.nil _, ((B0.out.setCell (by simp) _).setCell (by simp) _)⟩
        rw [results_tct rfl]
        go_simp
        try rfl
    · obtain rfl : i = 40 := by omega
      have HZ : Hid (okLog Z at_ s = true) := Lib.hid (by
        unfold okLog
        rw [decide_eq_true (by rw [HL.out]; exact ⟨rfl, Hc.out⟩), Bool.true_and, List.all_eq_true]
        intro b hb
        obtain ⟨j, hj, rfl⟩ := List.mem_iff_getElem.1 hb
        rw [decide_eq_true_eq]
        have := HI.out j (by rw [HL.out] at hj; exact hj)
        rwa [List.getD_eq_getElem?_getD, List.getElem?_eq_getElem hj] at this)
      have HE : Hid (foundErr Z at_ s = 0 ∧ foundOut Z at_ s = ((findF Z at_.toNat s).1, ((findF Z at_.toNat s).2.1 : Int), (findF Z at_.toNat s).2.2)) := Lib.hid (by unfold foundErr foundOut; rw [HZ.out]; exact ⟨rfl, rfl⟩)
      have FV0 : Hid (FVar w at_ s A0) := Lib.hid ⟨B0.out, h00, h01, h10, h11, fr0, fr1⟩
      have FV : Hid (FVar w at_ s (A0.alloc (.cells #[] 45))) := Lib.hid (FV0.out.later ((Below.refl _ _).alloc (Nat.le_refl _) _))
      have LO0 : Hid (LOwn (w.heap.size + 2) (A0.alloc (.cells #[] 45)) (.slice (some ⟨A0.heap.size, 0, none⟩) 0 0) []) := Lib.hid ((LOwn.made A0).mono FV0.out.lt)
      have hfin : ∀ (W : World) (ov : Value) (pre : List (List (Int × List Int))) (a : Nat) (q : Int), findF Z at_.toNat s = (pre, a, q) → FVar w (a : Int) q W → LOwn (w.heap.size + 2) W ov pre → ∃ oa oc, ov = .slice oa pre.length oc ∧
          HandedF w.heap.size w (foundOut Z at_ s) (foundErr Z at_ s) (.returned (.tuple #[ov, .agg #[.int .i64 a, .int .i64 q], .int .i64 0])) (((W.setCell ⟨w.heap.size + 1, 0, none⟩ (.int .i64 a)).setCell ⟨w.heap.size + 1, 1, none⟩ (.int .i64 q)).drew) := fun W ov pre a q he hV hO => by
        have hK : Keeps (w.heap.size + 1) W (((W.setCell ⟨w.heap.size + 1, 0, none⟩ (.int .i64 a)).setCell ⟨w.heap.size + 1, 1, none⟩ (.int .i64 q)).drew) := ((Keeps.set _ ⟨w.heap.size + 1, 0, none⟩ _).trans (Keeps.set _ ⟨w.heap.size + 1, 1, none⟩ _)).drew
        obtain ⟨oa, oc, rfl, hL⟩ := (hO.keeps hK (by omega)).lis
        refine ⟨oa, oc, rfl, oa, oc, ?_, ?_, ((hV.1.setCell (by simp) _).setCell (by simp) _).drew⟩
        · rw [HE.out.1, HE.out.2, he]
        · rw [HE.out.2, he]; exact hL
      have HFIN := Lib.hid hfin
      clear h00 h01 h10 h11 fr0 fr1 hfin
      go_wp2_with fail
      go_loopw [8] (fun ov wr => ∃ (pre : List (List (Int × List Int))) (a : Nat) (q : Int), a < 40 ∧ s ≤ q ∧ q ≤ 1073741824 ∧ Hid (findF Z at_.toNat s = (pre ++ (findF Z a q).1, (findF Z a q).2)) ∧ Hid ((pre.length : Int) = q - s) ∧ Hid (FVar w (a : Int) q wr) ∧ Hid (LOwn (w.heap.size + 2) wr ov pre)) (fun _ wr => seqOf w.heap.size wr)
      case atStart => exact ⟨[], at_.toNat, s, by omega, Int.le_refl _, c4, Lib.hid rfl, Lib.hid (by simp), Lib.hid (by rw [Int.toNat_of_nonneg c1]; exact FV.out), LO0⟩
      case round =>
        obtain ⟨pre, a, q, ha, hq0, hq1, HF, HPL, HV, HO⟩ := hrel
        have k0 := HV.out.2.1
        have k1 := HV.out.2.2.1
        by_cases hqe : q = 1073741824
        · subst hqe
          obtain ⟨oa, oc, rfl, hfin⟩ := HFIN.out wr u8 pre a _ (by rw [HF.out, findF_end (Int.le_refl _), List.append_nil]) HV.out HO.out
          have k2 := HV.out.2.2.2.1
          have k3 := HV.out.2.2.2.2.1
          have f3 := HV.out.2.2.2.2.2.2
          have HFI := Lib.hid hfin
          clear hfin
          go_wp2_with fail
          go_region
          all_goals
            go_wp2_with fail
            refine bodyPost_ret (v := .tuple #[.slice oa pre.length oc, .agg #[.int .i64 a, .int .i64 1073741824], .int .i64 0]) ?_ rfl HFI.out
            rw [results_tct rfl]
            go_simp
            try rfl
        have hq2 : q < 1073741824 := by omega
        clear hq1
        have HQ := Lib.hid (And.intro hq0 hq2)
        obtain ⟨b, off, ad, l, c, rfl, hc, hB⟩ := HR.out.at ha
        obtain rfl : l = 64 := by rw [← hB.1, HI.out a ha]
        have BR : Hid (Below w.heap.size w wr) := Lib.hid HV.out.1
        have r1 := cell_later BR.out hc
        have i1 : (a : Int) < 40 := by omega
        have cB := RBegins_any ad 64 c (Z.getD a []) wr (hB.later BR.out)
        obtain ⟨D, HD⟩ : ∃ D, Hid (getBeg (Z.getD a []) = D) := ⟨_, Lib.hid rfl⟩
        obtain ⟨E, HEr⟩ : ∃ E, Hid (getBegErr (Z.getD a []) = E) := ⟨_, Lib.hid rfl⟩
        rw [HD.out, HEr.out] at cB
        clear hc hB
        by_cases hb1 : E = 0 ∧ D.seq = q
        case neg =>
          have HTX : Hid (txAt Z a q = none) := Lib.hid (by
            unfold txAt
            rw [if_neg]
            rintro ⟨t1, t2, _⟩
            refine hb1 ⟨by rw [← HEr.out]; unfold getBegErr; rw [if_pos t1], by rw [← HD.out]; unfold getBeg; rw [if_pos t1]; exact t2⟩)
          have HE2 : Hid ((E = 0 ∧ D.seq ≠ q) ∨ E = 2) := Lib.hid (by
            have h : E = 0 ∨ E = 2 := by
              rw [← HEr.out]
              unfold getBegErr
              split
              · exact Or.inl rfl
              · exact Or.inr rfl
            rcases h with h | h
            · exact Or.inl ⟨h, fun e => hb1 ⟨h, e⟩⟩
            · exact Or.inr h)
          clear hb1
          rcases HE2.out with ⟨h, hsq⟩ | h
          · subst h
            have hne : (D.seq != q) = true := by simpa using hsq
            clear hsq
            go_wp2_with (go_at_call 12; refine cB.mono ?_; rintro e w5 ⟨v5, rfl, ⟨a5, c5, rfl, hI, _⟩, hb5⟩; obtain ⟨W, hW⟩ : ∃ W, w5.alloc (.cells #[.int .i64 D.seq, .slice a5 D.to.length c5] 24) = W := ⟨_, rfl⟩; have BW : Hid (Below wr.heap.size wr W) := Lib.hid (by rw [← hW]; exact hb5.alloc hb5.size _); have HV5 := Lib.hid (HV.out.later BW.out); have p0 := HV5.out.2.1; have p1 := HV5.out.2.2.1; have q0 : W.cell? ⟨w5.heap.size, 0, none⟩ = some (.int .i64 D.seq) := (by rw [← hW, World.cell?_alloc_new]; rfl); have q1 : W.cell? ⟨w5.heap.size, 1, none⟩ = some (.slice a5 D.to.length c5) := (by rw [← hW, World.cell?_alloc_new]; rfl); have HI5 : Hid (IArg W a5 D.to.length c5 D.to) := Lib.hid (by rw [← hW]; exact hI.later ((Below.refl _ _).alloc (Nat.le_refl _) _)); clear hI hb5)
            obtain ⟨oa, oc, rfl, hfin⟩ := HFIN.out W u8 pre a q (by rw [HF.out, findF_none HTX.out, List.append_nil]) HV5.out (HO.out.later BW.out)
            have k2 := HV5.out.2.2.2.1
            have k3 := HV5.out.2.2.2.2.1
            have f3 := HV5.out.2.2.2.2.2.2
            have HFI := Lib.hid hfin
            clear hfin
            go_region
            all_goals
              go_wp2_with fail
              refine bodyPost_ret (v := .tuple #[.slice oa pre.length oc, .agg #[.int .i64 a, .int .i64 q], .int .i64 0]) ?_ rfl HFI.out
              rw [results_tct rfl]
              go_simp
              try rfl
          · subst h
            go_wp2_with (go_at_call 12; refine cB.mono ?_; rintro e w5 ⟨v5, rfl, ⟨a5, c5, rfl, hI, _⟩, hb5⟩; obtain ⟨W, hW⟩ : ∃ W, w5.alloc (.cells #[.int .i64 D.seq, .slice a5 D.to.length c5] 24) = W := ⟨_, rfl⟩; have BW : Hid (Below wr.heap.size wr W) := Lib.hid (by rw [← hW]; exact hb5.alloc hb5.size _); have HV5 := Lib.hid (HV.out.later BW.out); have p0 := HV5.out.2.1; have p1 := HV5.out.2.2.1; have q0 : W.cell? ⟨w5.heap.size, 0, none⟩ = some (.int .i64 D.seq) := (by rw [← hW, World.cell?_alloc_new]; rfl); have q1 : W.cell? ⟨w5.heap.size, 1, none⟩ = some (.slice a5 D.to.length c5) := (by rw [← hW, World.cell?_alloc_new]; rfl); have HI5 : Hid (IArg W a5 D.to.length c5 D.to) := Lib.hid (by rw [← hW]; exact hI.later ((Below.refl _ _).alloc (Nat.le_refl _) _)); clear hI hb5)
            obtain ⟨oa, oc, rfl, hfin⟩ := HFIN.out W u8 pre a q (by rw [HF.out, findF_none HTX.out, List.append_nil]) HV5.out (HO.out.later BW.out)
            have k2 := HV5.out.2.2.2.1
            have k3 := HV5.out.2.2.2.2.1
            have f3 := HV5.out.2.2.2.2.2.2
            have HFI := Lib.hid hfin
            clear hfin
            go_region
            all_goals
              go_wp2_with fail
              refine bodyPost_ret (v := .tuple #[.slice oa pre.length oc, .agg #[.int .i64 a, .int .i64 q], .int .i64 0]) ?_ rfl HFI.out
              rw [results_tct rfl]
              go_simp
              try rfl
        obtain ⟨rfl, hb1⟩ := hb1
        obtain ⟨dq, to⟩ := D
        obtain rfl : q = dq := hb1.symm
        have hbg : isBeg (Z.getD a []) = true := by
          cases hI : isBeg (Z.getD a []) with
          | true => rfl
          | false => have := HEr.out; unfold getBegErr at this; rw [hI] at this; cases this
        have HRD : Hid (readD (Z.getD a []) = ⟨q, to⟩) := Lib.hid (by have := HD.out; unfold getBeg at this; rw [if_pos hbg] at this; exact this)
        have HBG := Lib.hid hbg
        have hsd := (soundD_parts (isBeg_block hbg).2.1).1
        rw [HRD.out] at hsd
        obtain ⟨m, hm⟩ : ∃ m, to.length = m := ⟨_, rfl⟩
        simp only at hsd cB
        rw [hm] at hsd
        have HMl := Lib.hid hm
        have m1 : (m : Int) ≤ 20 := by omega
        have m0 : 1 ≤ m := by omega
        obtain ⟨e, he⟩ : ∃ e, (a + (m + 1)) % 40 = e := ⟨_, rfl⟩
        have he40 : e < 40 := by omega
        obtain ⟨b', off', ad2, l2, c2', heq, hc2, hB2⟩ := HR.out.at he40
        simp only [Option.some.injEq, Addr.mk.injEq, and_true] at heq
        obtain ⟨rfl, rfl⟩ := heq
        obtain rfl : l2 = 64 := by rw [← hB2.1, HI.out e he40]
        have y2 := cell_later BR.out hc2
        have HB2 := Lib.hid hB2
        have HEE := Lib.hid he
        clear hc2 hB2 hsd hbg hm
        obtain ⟨eE, HeE⟩ : ∃ x, Hid (getEndErr (Z.getD e []) = x) := ⟨_, Lib.hid rfl⟩
        obtain ⟨eS, HeS⟩ : ∃ x, Hid (getEndSeq (Z.getD e []) = x) := ⟨_, Lib.hid rfl⟩
        obtain ⟨eC, HeC⟩ : ∃ x, Hid (getEndCount (Z.getD e []) = x) := ⟨_, Lib.hid rfl⟩
        have CN : Hid (∀ W, Below wr.heap.size wr W → Calls Try.prog 18 #[.slice ad2 (64 : Nat) c2'] W fun e w' => e = .returned (.tuple #[.int .i64 eS, .int .i64 eC, .int .i64 eE]) ∧ Below W.heap.size W w') := Lib.hid (fun W hW => by
          have h := REnds_any ad2 64 c2' (Z.getD e []) W ((HB2.out.later BR.out).later hW)
          rw [HeE.out, HeS.out, HeC.out] at h
          exact h)
        have HTXE : Hid (txAt Z a q = if isEnd (Z.getD e []) = true ∧ leN (Z.getD e []) 4 4 = q ∧ (Z.getD e []).getD 8 0 = (m : Int) then some ((List.range m).map fun i => (to.getD i 0, Z.getD ((a + 1 + i) % 40) [])) else none) := Lib.hid (by
          unfold txAt
          simp only [HRD.out, HMl.out, HEE.out, HBG.out, true_and])
        by_cases hb2 : eE = 0 ∧ eS = q ∧ eC = m
        case neg =>
          have HTX : Hid (txAt Z a q = none) := Lib.hid (by
            rw [HTXE.out, if_neg]
            rintro ⟨t1, t2, t3⟩
            refine hb2 ⟨by rw [← HeE.out]; unfold getEndErr; rw [if_pos t1], by rw [← HeS.out]; unfold getEndSeq; rw [if_pos t1]; exact t2, by rw [← HeC.out]; unfold getEndCount; rw [if_pos t1]; exact t3⟩)
          have HE2 : Hid ((eE = 0 ∧ eS = q ∧ eC ≠ m) ∨ (eE = 0 ∧ eS ≠ q) ∨ eE = 2) := Lib.hid (by
            have h : eE = 0 ∨ eE = 2 := by
              rw [← HeE.out]
              unfold getEndErr
              split
              · exact Or.inl rfl
              · exact Or.inr rfl
            rcases h with h | h
            · by_cases h2 : eS = q
              · exact Or.inl ⟨h, h2, fun h3 => hb2 ⟨h, h2, h3⟩⟩
              · exact Or.inr (Or.inl ⟨h, h2⟩)
            · exact Or.inr (Or.inr h))
          clear hb2
          rcases HE2.out with ⟨h, h2, hsq⟩ | ⟨h, hsq⟩ | h
          · subst h
            have h2' := h2.symm
            subst h2'
            have hne : (eC != (m : Int)) = true := by simpa using hsq
            clear hsq
            go_wp2_with (first
              | (go_at_call 12; refine cB.mono ?_; rintro e w5 ⟨v5, rfl, ⟨a5, c5, rfl, hI, _⟩, hb5⟩; simp only at hI; rw [HMl.out] at hI; try rw [HMl.out]; obtain ⟨W, hW⟩ : ∃ W, w5.alloc (.cells #[.int .i64 q, .slice a5 m c5] 24) = W := ⟨_, rfl⟩; have BW : Hid (Below wr.heap.size wr W) := Lib.hid (by rw [← hW]; exact hb5.alloc hb5.size _); have HV5 := Lib.hid (HV.out.later BW.out); have p0 := HV5.out.2.1; have p1 := HV5.out.2.2.1; have q0 : W.cell? ⟨w5.heap.size, 0, none⟩ = some (.int .i64 q) := (by rw [← hW, World.cell?_alloc_new]; rfl); have q1 : W.cell? ⟨w5.heap.size, 1, none⟩ = some (.slice a5 m c5) := (by rw [← hW, World.cell?_alloc_new]; rfl); have HI5 : Hid (IArg W a5 m c5 to) := Lib.hid (by rw [← hW]; exact hI.later ((Below.refl _ _).alloc (Nat.le_refl _) _)); have t2 := cell_later BW.out y2; clear hI hb5)
              | (go_at_call 18; refine (CN.out _ BW.out).mono ?_; rintro e' w6 ⟨rfl, hb6⟩; have BW6 : Hid (Below wr.heap.size wr w6) := Lib.hid (BW.out.trans (hb6.mono BW.out.size)); have HV6 := Lib.hid (HV.out.later BW6.out); have v0 := HV6.out.2.1; have v1 := HV6.out.2.2.1; have z0 := cell_later hb6 q0; have z1 := cell_later hb6 q1; have HI6 := Lib.hid (HI5.out.later hb6); clear hb6))
            obtain ⟨oa, oc, rfl, hfin⟩ := HFIN.out w6 u8 pre a q (by rw [HF.out, findF_none HTX.out, List.append_nil]) HV6.out (HO.out.later BW6.out)
            have k2 := HV6.out.2.2.2.1
            have k3 := HV6.out.2.2.2.2.1
            have f3 := HV6.out.2.2.2.2.2.2
            have HFI := Lib.hid hfin
            clear hfin
            go_region
            all_goals
              go_wp2_with fail
              refine bodyPost_ret (v := .tuple #[.slice oa pre.length oc, .agg #[.int .i64 a, .int .i64 q], .int .i64 0]) ?_ rfl HFI.out
              rw [results_tct rfl]
              go_simp
              try rfl
          · subst h
            have hne : (eS != q) = true := by simpa using hsq
            clear hsq
            go_wp2_with (first
              | (go_at_call 12; refine cB.mono ?_; rintro e w5 ⟨v5, rfl, ⟨a5, c5, rfl, hI, _⟩, hb5⟩; simp only at hI; rw [HMl.out] at hI; try rw [HMl.out]; obtain ⟨W, hW⟩ : ∃ W, w5.alloc (.cells #[.int .i64 q, .slice a5 m c5] 24) = W := ⟨_, rfl⟩; have BW : Hid (Below wr.heap.size wr W) := Lib.hid (by rw [← hW]; exact hb5.alloc hb5.size _); have HV5 := Lib.hid (HV.out.later BW.out); have p0 := HV5.out.2.1; have p1 := HV5.out.2.2.1; have q0 : W.cell? ⟨w5.heap.size, 0, none⟩ = some (.int .i64 q) := (by rw [← hW, World.cell?_alloc_new]; rfl); have q1 : W.cell? ⟨w5.heap.size, 1, none⟩ = some (.slice a5 m c5) := (by rw [← hW, World.cell?_alloc_new]; rfl); have HI5 : Hid (IArg W a5 m c5 to) := Lib.hid (by rw [← hW]; exact hI.later ((Below.refl _ _).alloc (Nat.le_refl _) _)); have t2 := cell_later BW.out y2; clear hI hb5)
              | (go_at_call 18; refine (CN.out _ BW.out).mono ?_; rintro e' w6 ⟨rfl, hb6⟩; have BW6 : Hid (Below wr.heap.size wr w6) := Lib.hid (BW.out.trans (hb6.mono BW.out.size)); have HV6 := Lib.hid (HV.out.later BW6.out); have v0 := HV6.out.2.1; have v1 := HV6.out.2.2.1; have z0 := cell_later hb6 q0; have z1 := cell_later hb6 q1; have HI6 := Lib.hid (HI5.out.later hb6); clear hb6))
            obtain ⟨oa, oc, rfl, hfin⟩ := HFIN.out w6 u8 pre a q (by rw [HF.out, findF_none HTX.out, List.append_nil]) HV6.out (HO.out.later BW6.out)
            have k2 := HV6.out.2.2.2.1
            have k3 := HV6.out.2.2.2.2.1
            have f3 := HV6.out.2.2.2.2.2.2
            have HFI := Lib.hid hfin
            clear hfin
            go_region
            all_goals
              go_wp2_with fail
              refine bodyPost_ret (v := .tuple #[.slice oa pre.length oc, .agg #[.int .i64 a, .int .i64 q], .int .i64 0]) ?_ rfl HFI.out
              rw [results_tct rfl]
              go_simp
              try rfl
          · subst h
            go_wp2_with (first
              | (go_at_call 12; refine cB.mono ?_; rintro e w5 ⟨v5, rfl, ⟨a5, c5, rfl, hI, _⟩, hb5⟩; simp only at hI; rw [HMl.out] at hI; try rw [HMl.out]; obtain ⟨W, hW⟩ : ∃ W, w5.alloc (.cells #[.int .i64 q, .slice a5 m c5] 24) = W := ⟨_, rfl⟩; have BW : Hid (Below wr.heap.size wr W) := Lib.hid (by rw [← hW]; exact hb5.alloc hb5.size _); have HV5 := Lib.hid (HV.out.later BW.out); have p0 := HV5.out.2.1; have p1 := HV5.out.2.2.1; have q0 : W.cell? ⟨w5.heap.size, 0, none⟩ = some (.int .i64 q) := (by rw [← hW, World.cell?_alloc_new]; rfl); have q1 : W.cell? ⟨w5.heap.size, 1, none⟩ = some (.slice a5 m c5) := (by rw [← hW, World.cell?_alloc_new]; rfl); have HI5 : Hid (IArg W a5 m c5 to) := Lib.hid (by rw [← hW]; exact hI.later ((Below.refl _ _).alloc (Nat.le_refl _) _)); have t2 := cell_later BW.out y2; clear hI hb5)
              | (go_at_call 18; refine (CN.out _ BW.out).mono ?_; rintro e' w6 ⟨rfl, hb6⟩; have BW6 : Hid (Below wr.heap.size wr w6) := Lib.hid (BW.out.trans (hb6.mono BW.out.size)); have HV6 := Lib.hid (HV.out.later BW6.out); have v0 := HV6.out.2.1; have v1 := HV6.out.2.2.1; have z0 := cell_later hb6 q0; have z1 := cell_later hb6 q1; have HI6 := Lib.hid (HI5.out.later hb6); clear hb6))
            obtain ⟨oa, oc, rfl, hfin⟩ := HFIN.out w6 u8 pre a q (by rw [HF.out, findF_none HTX.out, List.append_nil]) HV6.out (HO.out.later BW6.out)
            have k2 := HV6.out.2.2.2.1
            have k3 := HV6.out.2.2.2.2.1
            have f3 := HV6.out.2.2.2.2.2.2
            have HFI := Lib.hid hfin
            clear hfin
            go_region
            all_goals
              go_wp2_with fail
              refine bodyPost_ret (v := .tuple #[.slice oa pre.length oc, .agg #[.int .i64 a, .int .i64 q], .int .i64 0]) ?_ rfl HFI.out
              rw [results_tct rfl]
              go_simp
              try rfl
        obtain ⟨h1, h2, h3⟩ := hb2
        have HTX : Hid (txAt Z a q = some ((List.range m).map fun i => (to.getD i 0, Z.getD ((a + 1 + i) % 40) []))) := Lib.hid (by
          have t1 : isEnd (Z.getD e []) = true := by
            cases hI : isEnd (Z.getD e []) with
            | true => rfl
            | false => have := HeE.out; unfold getEndErr at this; rw [hI, h1] at this; cases this
          rw [HTXE.out, if_pos]
          refine ⟨t1, ?_, ?_⟩
          · have := HeS.out; unfold getEndSeq at this; rw [if_pos t1] at this; rw [this]; exact h2
          · have := HeC.out; unfold getEndCount at this; rw [if_pos t1] at this; rw [this]; exact h3)
        have h2' := h2.symm
        subst h2'
        subst h1
        subst h3
        go_wp2_with (first
              | (go_at_call 12; refine cB.mono ?_; rintro e w5 ⟨v5, rfl, ⟨a5, c5, rfl, hI, _⟩, hb5⟩; simp only at hI; rw [HMl.out] at hI; try rw [HMl.out]; obtain ⟨W, hW⟩ : ∃ W, w5.alloc (.cells #[.int .i64 q, .slice a5 m c5] 24) = W := ⟨_, rfl⟩; have BW : Hid (Below wr.heap.size wr W) := Lib.hid (by rw [← hW]; exact hb5.alloc hb5.size _); have HV5 := Lib.hid (HV.out.later BW.out); have p0 := HV5.out.2.1; have p1 := HV5.out.2.2.1; have q0 : W.cell? ⟨w5.heap.size, 0, none⟩ = some (.int .i64 q) := (by rw [← hW, World.cell?_alloc_new]; rfl); have q1 : W.cell? ⟨w5.heap.size, 1, none⟩ = some (.slice a5 m c5) := (by rw [← hW, World.cell?_alloc_new]; rfl); have HI5 : Hid (IArg W a5 m c5 to) := Lib.hid (by rw [← hW]; exact hI.later ((Below.refl _ _).alloc (Nat.le_refl _) _)); have t2 := cell_later BW.out y2; clear hI hb5)
              | (go_at_call 18; refine (CN.out _ BW.out).mono ?_; rintro e' w6 ⟨rfl, hb6⟩; have BW6 : Hid (Below wr.heap.size wr w6) := Lib.hid (BW.out.trans (hb6.mono BW.out.size)); have HV6 := Lib.hid (HV.out.later BW6.out); have v0 := HV6.out.2.1; have v1 := HV6.out.2.2.1; have z0 := cell_later hb6 q0; have z1 := cell_later hb6 q1; have HI6 := Lib.hid (HI5.out.later hb6); clear hb6))
        have WO : Hid (WOwn w6.heap.size (w6.alloc (.cells #[] 50)) (.slice (some ⟨w6.heap.size, 0, none⟩) 0 0) ((txL Z to a m).take 0)) := Lib.hid (by rw [List.take_zero]; exact WOwn.made w6)
        have B6A : Hid (Below w6.heap.size w6 (w6.alloc (.cells #[] 50))) := Lib.hid ((Below.refl _ _).alloc (Nat.le_refl _) _)
        have HW6 : Hid (∀ W, Below w6.heap.size w6 W → W.cell? ⟨w5.heap.size, 1, none⟩ = some (.slice a5 m c5) ∧ W.cell? ⟨w.heap.size, 0, none⟩ = some (.int .i64 (a : Int))) := Lib.hid (fun W hW => ⟨cell_later hW z1, cell_later hW v0⟩)
        clear v0 v1 z0 z1 q0 q1 p0 p1
        go_loopw [14, 15] (fun lv iv wi => ∃ i : Nat, iv = .int .i64 (i : Int) ∧ i ≤ m ∧ Hid (WOwn w6.heap.size wi lv ((txL Z to a m).take i)) ∧ Hid (Below w6.heap.size w6 wi)) (fun _ iv _ => m - (intOf iv).toNat)
        case atStart => exact ⟨0, rfl, Nat.zero_le _, WO, B6A⟩
        case round =>
          obtain ⟨i, rfl, hi, HLV, HBI⟩ := hrel
          by_cases hlt : i < m
          · obtain ⟨fb, fo, x, rfl, hx, hcx, hx64⟩ := HI6.out.at hlt
            obtain ⟨j, hj⟩ : ∃ j, (a + 1 + i) % 40 = j := ⟨_, rfl⟩
            have hj40 : j < 40 := by omega
            obtain ⟨b', off', ad3, l3, c3, heq, hc3, hB3⟩ := HR.out.at hj40
            simp only [Option.some.injEq, Addr.mk.injEq, and_true] at heq
            obtain ⟨rfl, rfl⟩ := heq
            obtain rfl : l3 = 64 := by rw [← hB3.1, HI.out j hj40]
            have HB3 := Lib.hid (((hB3.later BR.out).later BW6.out))
            have hc3' := cell_later BW6.out (cell_later BR.out hc3)
            have HST := Lib.hid (txL_step Z to a m i hlt)
            have hgd : to.getD i 0 = x := by rw [List.getD_eq_getElem?_getD, hx]; rfl
            rw [hgd, hj] at HST
            obtain ⟨xs, ho, hxs⟩ := HLV.out
            have hlen : ((txL Z to a m).take i).length = i := by rw [List.length_take, txL_length]; omega
            rw [hlen] at ho
            obtain ⟨la, lc, rfl⟩ := owns_shape_r ho
            have HOW := Lib.hid ho
            have HXS := Lib.hid hxs
            have HLE := Lib.hid hlen
            have HX64 := Lib.hid hx64
            have HSZ : Hid (w6.heap.size ≤ wr.heap.size) := Lib.hid HBI.out.size
            have i1' : (i : Int) < (m : Int) := by omega
            have HK : Hid (∀ W, Below w6.heap.size w6 W → (W.cell? ⟨w5.heap.size, 1, none⟩ = some (.slice (some ⟨fb, fo, none⟩) m c5) ∧ W.cell? ⟨w.heap.size, 0, none⟩ = some (.int .i64 (a : Int)) ∧ W.cell? ⟨fb, fo + i, none⟩ = some (.int .i64 x) ∧ W.cell? ⟨b, off + j, none⟩ = some (.slice ad3 64 c3)) ∧ Hid (Below w6.heap.size w6 W)) := Lib.hid (fun W hW => ⟨⟨(HW6.out W hW).1, (HW6.out W hW).2, cell_later hW hcx, cell_later hW hc3'⟩, Lib.hid hW⟩)
            have BD : Hid (Below w6.heap.size w6 wr.drew) := Lib.hid HBI.out.drew
            have BD1 : Hid (Below w6.heap.size w6 (wr.drew.alloc (.cells #[] 5))) := Lib.hid (BD.out.alloc BD.out.size _)
            clear hx hcx hx64 hc3 hc3' hB3 ho hxs hlen hgd
            go_wp2_with fail
            have ix1 : IntKind.i64.wrap ((a : Int) + 1) = (a : Int) + 1 := IntWalk.i64_in _ (by omega)
            have ix2 : IntKind.i64.wrap ((a : Int) + 1 + (i : Int)) = (a : Int) + 1 + (i : Int) := IntWalk.i64_in _ (by omega)
            have ix3 : Int.tmod ((a : Int) + 1 + (i : Int)) 40 = (j : Int) := by rw [IntWalk.rem_in _ _ (by omega)]; omega
            have ix4 : IntKind.i64.wrap (j : Int) = (j : Int) := IntWalk.i64_in _ (by omega)
            have j0 : (0 : Int) ≤ (j : Int) := by omega
            have i0' : (0 : Int) ≤ (i : Int) := by omega
            have j1 : (j : Int) < 40 := by omega
            go_region_held3 (fun W => (W.cell? ⟨w5.heap.size, 1, none⟩ = some (.slice (some ⟨fb, fo, none⟩) m c5) ∧ W.cell? ⟨w.heap.size, 0, none⟩ = some (.int .i64 (a : Int)) ∧ W.cell? ⟨fb, fo + i, none⟩ = some (.int .i64 x) ∧ W.cell? ⟨b, off + j, none⟩ = some (.slice ad3 64 c3)) ∧ Hid (Below w6.heap.size w6 W)) (first | exact HK.out _ BD.out | exact HK.out _ BD1.out | exact HK.out _ B7.out | exact HK.out _ (B7A.out _) | exact HK.out _ B8.out)
              (first
                | (refine step_append_bytes (o := ⟨some 128, _, _, _, _, _⟩) rfl (.tmp 118) (.tmp 127) rfl wr.heap.size 0 _ [] rfl (empty_new wr.drew) ad3 64 c3 (Z.getD j []) rfl (HB3.out.later BD1.out) (by intro e; have := HB3.out; subst e; rcases this.2.2.2 with h | ⟨_, _, h, _⟩ <;> cases h) (by decide) (by simp) ?_; intro v7 w7 hown7 hb7; rw [Nat.zero_add, List.nil_append] at hown7; have b7r : Below wr.heap.size wr w7 := (((Below.refl _ _).drew).alloc (by simp) _).trans hb7; obtain ⟨g7, p7, rfl, hc7, hl7, hO7⟩ := own_of_owns (w0 := wr) hown7 HB3.out.2.2.1 (by decide) b7r; have hlt7 := (hown7.lt g7 rfl).2; have hA7 : Arg w7 (some ⟨g7, 0, none⟩) 64 p7 (Z.getD j []) := ⟨by have h := hO7.bts (by rw [hl7]; decide); rw [hl7] at h; exact h, (fun h => by cases h), hc7, by decide⟩; have HA7 := Lib.hid (And.intro hA7 (And.intro hlt7 hO7.2.2.2.1)); have B7R := Lib.hid b7r; have B7 : Hid (Below w6.heap.size w6 w7) := Lib.hid (BD1.out.trans (hb7.mono HSZ.out)); have B7A : Hid (∀ o, Below w6.heap.size w6 (w7.alloc o)) := Lib.hid (fun o => B7.out.alloc B7.out.size _); clear hown7 hb7 hc7 hO7 hl7 hlt7 hA7 b7r)
                | (refine step_append_at (o := ⟨some 131, _, _, _, _, _⟩) elemW rfl (.tmp 112) (.tmp 130) rfl w6.heap.size i (.slice la i lc) xs rfl ((owns_later_r HOW.out B7R.out).alloc _) ⟨w7.heap.size, 0, none⟩ 1 1 [.int .i64 x, .slice (some ⟨g7, 0, none⟩) 64 p7] rfl (by decide) rfl (news_f w7 [.int .i64 x, .slice (some ⟨g7, 0, none⟩) 64 p7] _) (by intro u hu; simp only [List.mem_cons, List.mem_nil_iff, or_false] at hu; rcases hu with rfl | rfl <;> rfl) (by omega) (by have := B7.out.size; simp; omega) ?_; intro v8 w8 hown8 hg8 hb8 hv8; have HW8 : Hid (WOwn w6.heap.size w8 v8 ((txL Z to a m).take (i + 1))) := Lib.hid (by rw [HST.out]; exact WOwn.snoc (by rw [HLE.out]; exact HOW.out) HXS.out B7R.out HSZ.out HX64.out HA7.out.2.2 HA7.out.2.1 HA7.out.1 (by rw [HLE.out]; exact hown8) hg8 hv8); have B8 : Hid (Below w6.heap.size w6 w8) := Lib.hid ((B7A.out _).trans hb8); clear hown8 hg8 hb8 hv8))
            all_goals
              go_wp2_with fail
              go_roundw
              case rel => exact ⟨i + 1, by go_num, by omega, HW8, B8⟩
              case measure => simp [intOf]; omega
          · obtain rfl : i = m := by omega
            have hall : (txL Z to a i).take i = txL Z to a i := List.take_of_length_le (by rw [txL_length]; exact Nat.le_refl _)
            have hw := HLV.out
            rw [hall] at hw
            obtain ⟨la, lc, rfl, hwin⟩ := hw.win (by rw [txL_length]; omega)
            have HWIN := Lib.hid hwin
            obtain ⟨xs, ho, hxs⟩ := HO.out
            have HOW := Lib.hid ho
            have HXS := Lib.hid hxs
            have BWI := Lib.hid (BW6.out.trans (HBI.out.mono BW6.out.size))
            have HVI := Lib.hid (HV.out.later BWI.out)
            have HLT := Lib.hid HV.out.lt
            have HTL := Lib.hid (txL_length Z to a i)
            have HPB : Hid (pre.length ≤ 1073741824) := Lib.hid (by have := HPL.out; have := HQ.out; have := Hc.out; omega)
            clear ho hxs hw hwin
            go_wp2_with (refine wp_append_at elemWs rfl (.tmp 132) (.tmp 134) rfl (w.heap.size + 2) pre.length u8 xs rfl ((owns_later_r HOW.out BWI.out).alloc _) ⟨wr.heap.size, 0, none⟩ 1 1 [.slice la (txL Z to a i).length lc] rfl (by decide) rfl (news_f wr [.slice la (txL Z to a i).length lc] _) (by intro u hu; simp only [List.mem_cons, List.mem_nil_iff, or_false] at hu; rcases hu with rfl; rfl) (by have := HPB.out; omega) (by have := HLT.out; have := BWI.out.size; simp; omega) ?_; intro v9 w9 hown9 hg9 hb9 hv9; have HL9 : Hid (LOwn (w.heap.size + 2) w9 v9 (pre ++ [txL Z to a i])) := Lib.hid (LOwn.snoc HOW.out HXS.out BWI.out HLT.out (HWIN.out.imp (fun k hk => ⟨Nat.le_trans BW6.out.size hk.1, hk.2⟩)) hown9 hg9 hv9); have HV9 : Hid (FVar w (a : Int) q w9) := Lib.hid ((HVI.out.later ((Below.refl _ _).alloc (Nat.le_refl _) _)).under hb9 (by omega)); have k0 := HV9.out.2.1; have k1 := HV9.out.2.2.1; have f0 := HV9.out.2.2.2.2.2.1; clear hown9 hg9 hb9 hv9)
            have HVF := FVar.set (a' := ((a : Int) + ((i : Int) + 2)) % 40) (s' := q + 1) HV9.out
            have ha' : ((a : Int) + ((i : Int) + 2)) % 40 = (((a + (i + 2)) % 40 : Nat) : Int) := by omega
            have hq9 := HQ.out
            refine ⟨⟨pre ++ [txL Z to a i], (a + (i + 2)) % 40, q + 1, Nat.mod_lt _ (by decide), by omega, by omega, Lib.hid ?_, Lib.hid ?_, Lib.hid (by rw [← ha']; exact HVF), Lib.hid (HL9.out.keeps ((Keeps.set _ ⟨w.heap.size, 0, none⟩ _).trans (Keeps.set _ ⟨w.heap.size, 1, none⟩ _)) (by show w.heap.size < w.heap.size + 2; omega))⟩, ?_⟩
            · rw [HF.out, findF_some (l := txL Z to a i) HTX.out hq9.2, HTL.out, List.append_assoc]
              rfl
            · rw [List.length_append]
              have := HPL.out
              simp
              omega
            · rw [seqOf_eq HVF, seqOf_eq HV.out]
              omega

end Go.Proofs.Ytpmggbdmoopkfaa
