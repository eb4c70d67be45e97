/-
  Proved here: what the landed super's four calls answer (supOk).
  No conditions but those that each theorem names.
-/
import Derived.Test.YtpmggbdmoopkfaaSupWR
import Derived.Test.YtpmggbdmoopkfaaSupFacts
import Derived.Laws.ResultCell
namespace Go.Proofs.Ytpmggbdmoopkfaa
open Go.RowKit
set_option linter.unusedVariables false
set_option linter.unusedSimpArgs false

theorem bytesEq_any (ao bo : Option Addr) (al ac bl bc : Nat) (xs ys : List Int) (w : World) (hx : Bts w ao al xs) (hy : Bts w bo bl ys) :
    Calls Try.prog 32 #[.slice ao al ac, .slice bo bl bc] w fun e w' => e = .returned (.bool (decide (xs = ys))) ∧ w = w' := by
  have h1 := str_bytes (cap := ac) hx
  have h2 := str_bytes (cap := bc) hy
  have HE : Hid (((str xs).toList == (str ys).toList) = decide (xs = ys)) := Lib.hid (str_eq hx.2.2.1 hy.2.2.1)
  clear hx hy
  generalize str xs = sx at *
  generalize str ys = sy at *
  go_enter Try.func32, Try.ntmps32
  go_wp2
  go_ret
  exact ⟨by rw [← HE.out]; rfl, rfl⟩

theorem sealOut_sum {m b : List Int} (h : m.length = 64 ∧ sealOf sumS m = b) : sealOut sumS m = b := by
  unfold sealOut
  rw [if_pos h.1, h.2]

theorem wrt_sup (s : PSup) : wrt (textOut zeroes64 0 (bytesOf ⟨#[68, 82, 89, 68]⟩)) supPs [s.a, s.b, s.c, s.d, s.e] 5 = madeSup s := rfl
theorem wrt_head (s : PHead) : wrt (textOut zeroes64 0 (bytesOf ⟨#[72, 69, 65, 68]⟩)) headPs [s.a, s.b] 2 = madeHead s := rfl

theorem cell_block {w w' : World} {p : Addr} (h : w'.heap[p.block]? = w.heap[p.block]?) : w'.cell? p = w.cell? p := by
  unfold World.cell?
  rw [h]

/-- What has been made ahead of the places: the variable that is answered, and the one that is read into. -/
theorem dec_begun {w w3 : World} {T : TypeId} {c : Array Value} {n : Nat} {ps : List (Nat × Nat)} {zs : List Int} (hz : ∀ j, j < n → c[j]? = some (.int .i64 0))
    (hp : PlIs w3 ((w.alloc (.cells c T)).alloc (.cells c T)).heap.size (w.heap.size + 1) ps) (hb : Below ((w.alloc (.cells c T)).alloc (.cells c T)).heap.size ((w.alloc (.cells c T)).alloc (.cells c T)) w3) :
    Rd w (w.heap.size + 1 + 1) (w.heap.size + 1) ps n zs 0 w3 ∧ (∀ j, j < n → w3.cell? ⟨w.heap.size, j, none⟩ = some (.int .i64 0)) ∧ (∀ j, w3.frozen? ⟨w.heap.size, j, none⟩ = false) ∧ w.heap.size + 1 < w3.heap.size := by
  have s1 : ((w.alloc (.cells c T)).alloc (.cells c T)).heap.size = w.heap.size + 1 + 1 := by simp
  have sa : (w.alloc (.cells c T)).heap.size = w.heap.size + 1 := by simp
  have b1 : Below (w.alloc (.cells c T)).heap.size (w.alloc (.cells c T)) w3 := ((Below.refl _ _).alloc (Nat.le_refl _) _).trans (hb.mono (by simp))
  have hsz := hb.size
  rw [s1] at hsz hp
  refine ⟨⟨((Below.refl _ _).alloc (Nat.le_refl _) _).trans (b1.mono (by simp)), hp, fun j hj => ?_, fun j => ?_⟩, fun j hj => cell_later b1 (by rw [World.cell?_alloc_new]; exact hz j hj), fun j => ?_, by omega⟩
  · rw [if_neg (by omega)]
    refine cell_later hb ?_
    rw [← sa, World.cell?_alloc_new]
    exact hz j hj
  · rw [hb.frozen (p := ⟨w.heap.size + 1, j, none⟩) (by simp), ← sa, World.frozen?_alloc_mark]
    simp
  · rw [b1.frozen (p := ⟨w.heap.size, j, none⟩) (by simp), World.frozen?_alloc_mark]
    simp

/-- What is there behind the reading, and behind writing it again. -/
theorem dec_read {w w3 w4 w5 : World} {gp n : Nat} {ps : List (Nat × Nat)} {zs : List Int} (h3 : (∀ j, j < n → w3.cell? ⟨w.heap.size, j, none⟩ = some (.int .i64 0)) ∧ (∀ j, w3.frozen? ⟨w.heap.size, j, none⟩ = false) ∧ w.heap.size + 1 < w3.heap.size)
    (h4 : Rd w gp (w.heap.size + 1) ps n zs n w4) (hs : w3.heap.size ≤ w4.heap.size) (hk : ∀ b, b < w3.heap.size → b ≠ w.heap.size + 1 → w4.heap[b]? = w3.heap[b]?) (h5 : Below w4.heap.size w4 w5) :
    (∀ j, j < n → w5.cell? ⟨w.heap.size, j, none⟩ = some (.int .i64 0)) ∧ (∀ j, w5.frozen? ⟨w.heap.size, j, none⟩ = false) ∧ (∀ j, j < n → w5.cell? ⟨w.heap.size + 1, j, none⟩ = some (.int .i64 (getOut zs ((ps.getD j (0, 0)).1 : Nat) ((ps.getD j (0, 0)).2 : Nat)))) ∧ Below w.heap.size w w5 := by
  have hk0 := hk w.heap.size (by omega) (by omega)
  refine ⟨fun j hj => cell_later h5 ?_, fun j => ?_, fun j hj => cell_later h5 ?_, h4.1.trans (h5.mono h4.1.size)⟩
  · rw [cell_block (p := ⟨w.heap.size, j, none⟩) hk0]; exact h3.1 j hj
  · rw [h5.frozen (p := ⟨w.heap.size, j, none⟩) (by show w.heap.size < _; omega), World.frozen?_of_block (w := w3) (a := ⟨w.heap.size, j, none⟩) hk0]; exact h3.2.1 j
  · rw [h4.2.2.1 j hj, if_pos hj]

theorem getOut_in {zs : List Int} (hz : ∀ z ∈ zs, 0 ≤ z ∧ z ≤ 255) {p k : Nat} (h : p + k ≤ 64) (hk : k ≤ 4) : i64w (getOut zs p k) := by
  unfold getOut
  split
  · have h64 : zs.length = 64 := (fErr_ok (by assumption)).1
    have := leN_four hz p k (by omega) hk
    unfold i64w
    rw [Int.toNat_natCast, Int.toNat_natCast]
    omega
  · unfold i64w; omega

theorem getOut_64 {zs : List Int} (h : zs.length = 64) {p k : Nat} (h1 : 1 ≤ k) (h2 : k ≤ 4) (h3 : p + k ≤ 60) : getOut zs p k = leN zs p k := by
  unfold getOut
  rw [h, if_pos (by unfold fErr; rw [if_pos rfl, if_neg (by omega)])]
  rw [Int.toNat_natCast, Int.toNat_natCast]

theorem getOut_no {zs : List Int} (h : zs.length ≠ 64) (p k : Int) : getOut zs p k = 0 := by
  unfold getOut
  rw [if_neg (by intro e; exact h (fErr_ok e).1)]

theorem leN1 (zs : List Int) (p : Nat) : leN zs p 1 = zs.getD p 0 := by
  show 0 + zs.getD (p + 0) 0 * 256 ^ 0 = _
  rw [Nat.add_zero]
  omega

/-- What reading place by place makes of any bytes. -/
def gotSup (zs : List Int) : PSup := ⟨getOut zs (4 : Nat) (2 : Nat), getOut zs (6 : Nat) (1 : Nat), getOut zs (7 : Nat) (1 : Nat), getOut zs (8 : Nat) (1 : Nat), getOut zs (10 : Nat) (2 : Nat)⟩
def gotHead (zs : List Int) : PHead := ⟨getOut zs (4 : Nat) (1 : Nat), getOut zs (8 : Nat) (4 : Nat)⟩

theorem got_sup {zs : List Int} (h : zs.length = 64) : gotSup zs = readSup zs := by
  unfold gotSup readSup
  rw [getOut_64 h (by decide) (by decide) (by decide), getOut_64 h (by decide) (by decide) (by decide), getOut_64 h (by decide) (by decide) (by decide), getOut_64 h (by decide) (by decide) (by decide), getOut_64 h (by decide) (by decide) (by decide), leN1, leN1, leN1]
theorem got_head {zs : List Int} (h : zs.length = 64) : gotHead zs = readHead zs := by
  unfold gotHead readHead
  rw [getOut_64 h (by decide) (by decide) (by decide), getOut_64 h (by decide) (by decide) (by decide), leN1]
theorem got_no_sup {zs : List Int} (h : zs.length ≠ 64) : (gotSup zs).sound = false := by
  unfold gotSup
  simp only [getOut_no h]
  rfl
theorem got_no_head {zs : List Int} (h : zs.length ≠ 64) : (gotHead zs).sound = false := by
  unfold gotHead
  simp only [getOut_no h]
  rfl

/-- The three ways of reading: it is sound and the same again; it is sound and other bytes; it is not sound. -/
theorem sup_ways (zs : List Int) : ((gotSup zs).sound = true ∧ supBlock (gotSup zs) = zs ∧ getSup zs = gotSup zs ∧ getSupErr zs = 0) ∨ ((gotSup zs).sound = true ∧ supBlock (gotSup zs) ≠ zs ∧ getSup zs = noSup ∧ getSupErr zs = 2) ∨ ((gotSup zs).sound = false ∧ getSup zs = noSup ∧ getSupErr zs = 2) := by
  unfold getSup getSupErr
  by_cases h64 : zs.length = 64
  · rw [got_sup h64]
    unfold isSup
    rw [decide_eq_true h64, Bool.true_and]
    cases hs : (readSup zs).sound with
    | false => right; right; exact ⟨rfl, rfl, rfl⟩
    | true =>
      by_cases he : supBlock (readSup zs) = zs
      · left; rw [decide_eq_true he]; exact ⟨rfl, he, rfl, rfl⟩
      · right; left; rw [decide_eq_false he]; exact ⟨rfl, he, rfl, rfl⟩
  · right; right
    have hi : isSup zs = false := by unfold isSup; rw [decide_eq_false h64]; rfl
    rw [hi]
    exact ⟨got_no_sup h64, rfl, rfl⟩
theorem head_ways (zs : List Int) : ((gotHead zs).sound = true ∧ headBlock (gotHead zs) = zs ∧ getHead zs = gotHead zs ∧ getHeadErr zs = 0) ∨ ((gotHead zs).sound = true ∧ headBlock (gotHead zs) ≠ zs ∧ getHead zs = noHead ∧ getHeadErr zs = 2) ∨ ((gotHead zs).sound = false ∧ getHead zs = noHead ∧ getHeadErr zs = 2) := by
  unfold getHead getHeadErr
  by_cases h64 : zs.length = 64
  · rw [got_head h64]
    unfold isHead
    rw [decide_eq_true h64, Bool.true_and]
    cases hs : (readHead zs).sound with
    | false => right; right; exact ⟨rfl, rfl, rfl⟩
    | true =>
      by_cases he : headBlock (readHead zs) = zs
      · left; rw [decide_eq_true he]; exact ⟨rfl, he, rfl, rfl⟩
      · right; left; rw [decide_eq_false he]; exact ⟨rfl, he, rfl, rfl⟩
  · right; right
    have hi : isHead zs = false := by unfold isHead; rw [decide_eq_false h64]; rfl
    rw [hi]
    exact ⟨got_no_head h64, rfl, rfl⟩

set_option maxHeartbeats 1600000 in
theorem sput_any (s : PHead) (w : World) (hi : s.in64) : Calls Try.prog 34 #[s.val] w (Handed w.heap.size w (headOut s) (headErr s)) := by
  obtain ⟨a, b⟩ := s
  have W1 : Hid (Below w.heap.size w (w.alloc (.cells #[.int .i64 a, .int .i64 b] 40))) := Lib.hid ((Below.refl _ _).alloc (Nat.le_refl _) _)
  have cS := fun W => soundHead_any (⟨a, b⟩ : PHead) W
  cases hS : (PHead.sound ⟨a, b⟩) with
  | false =>
    have HO : Hid (headOut ⟨a, b⟩ = [] ∧ headErr ⟨a, b⟩ = 2) := Lib.hid (by unfold headOut headErr; rw [hS]; exact ⟨rfl, rfl⟩)
    rw [hS] at cS
    unfold PHead.val at cS ⊢
    clear hS hi
    go_enter Try.func34, Try.ntmps34
    go_wp2_with (go_at_call 46; refine (cS _).mono ?_; rintro e w2 ⟨rfl, hb2⟩; have B2 := Lib.hid (W1.out.trans (hb2.mono W1.out.size)); clear hb2)
    go_ret2
    exact ⟨.slice none 0 0, by rw [HO.out.2]; rfl, by rw [HO.out.1]; exact Fresh.nil _ _, B2.out⟩
  | true =>
    have HO : Hid (headOut ⟨a, b⟩ = headBlock ⟨a, b⟩ ∧ headErr ⟨a, b⟩ = 0) := Lib.hid (by unfold headOut headErr; rw [hS]; exact ⟨rfl, rfl⟩)
    have HM : Hid (sealOut sumS (wrt (textOut zeroes64 0 (bytesOf ⟨#[72, 69, 65, 68]⟩)) headPs [a, b] 2) = headBlock ⟨a, b⟩) := Lib.hid (by
      have ew := wrt_head ⟨a, b⟩
      rw [show wrt (textOut zeroes64 0 (bytesOf ⟨#[72, 69, 65, 68]⟩)) headPs [a, b] 2 = _ from ew]
      exact sealOut_sum (made_head hS))
    have HW : Hid (∀ gp W, Below (w.alloc (.cells #[.int .i64 a, .int .i64 b] 40)).heap.size (w.alloc (.cells #[.int .i64 a, .int .i64 b] 40)) W → PlIs W gp w.heap.size headPs → Calls Try.prog 47 #[.string ⟨#[72, 69, 65, 68]⟩, .slice (some ⟨gp, 0, none⟩) (2 : Nat) (2 : Nat)] W (Gives W.heap.size W (headBlock ⟨a, b⟩))) := Lib.hid (fun gp W hW hp => by
      have c := write_any ⟨#[72, 69, 65, 68]⟩ gp w.heap.size 2 headPs [a, b] W (by decide) rfl (by decide) small_head hp (fun j hj => ?_) (fun j hj => ?_)
      · rw [HM.out] at c
        exact c
      · refine cell_later hW ?_
        rw [World.cell?_alloc_new]
        match j, hj with
        | 0, _ | 1, _ => rfl
      · unfold PHead.in64 at hi
        match j, hj with
        | 0, _ => exact hi.1
        | 1, _ => exact hi.2
      )
    rw [hS] at cS
    unfold PHead.val at cS ⊢
    have cP := fun W => headPlaces_any w.heap.size W
    clear hS hi HM
    go_enter Try.func34, Try.ntmps34
    go_wp2_with (first
      | (go_at_call 46; refine (cS _).mono ?_; rintro e w2 ⟨rfl, hb2⟩; have B2 := Lib.hid hb2; clear hb2)
      | (go_at_call 48; refine (cP _).mono ?_; rintro e w3 ⟨rfl, hp3, hb3⟩; have P3 := Lib.hid hp3; have B3 := Lib.hid (B2.out.trans (hb3.mono B2.out.size)); clear hp3 hb3)
      | (go_at_call 47; refine (HW.out _ _ B3.out P3.out).mono ?_; rintro e w4 ⟨v4, rfl, hf4, hb4⟩; have B4 := Lib.hid ((W1.out.trans (B3.out.mono W1.out.size)).trans (hb4.mono (W1.out.trans (B3.out.mono W1.out.size)).size)); have F4 := Lib.hid (hf4.mono (W1.out.trans (B3.out.mono W1.out.size)).size); clear hf4 hb4))
    go_ret2
    exact ⟨v4, by rw [HO.out.2]; rfl, by rw [HO.out.1]; exact F4.out, B4.out⟩

end Go.Proofs.Ytpmggbdmoopkfaa

