/-
  Proved here: what the document's own making of blocks of Supers and Heads (drydockref08: Encode, PutHead) answers. The conditions stand at each theorem. Proved here: what the document's own reading of blocks of Supers and Heads (drydockref08: Decode, GetHead) answers. The conditions stand at each theorem. Proved here: what the document's own Home and Sound of a log answer. The conditions stand at each theorem. Proved here: what the document's own Begin and End of a log answer. The conditions stand at each theorem. Proved here: what the document's own Ends of a log answers. The conditions stand at each theorem. Proved here: what the document's own Begins of a log answers. The conditions stand at each theorem.
-/
import Derived.Test.YtbnepjojfaeggaaA4
import Derived.Test.YtbnepjojfaeggaaA1
import Derived.Laws.ResultCell
import Derived.Deep.RegionHeld
import Derived.Test.YtbnepjojfaeggaaA0
import Derived.Deep.QuietTactic
import Derived.BigQuiet
import Derived.Test.YtbnepjojfaeggaaA2
import Derived.Deep.Cut
import Derived.Deep.RegionLaw
namespace Go.Proofs.Ytbnepjojfaeggaa
open Go.RowKit

theorem in08_any (n lo hi : Int) (w : World) : Calls Try.prog 44 #[.int .i64 n, .int .i64 lo, .int .i64 hi] w fun e w' => e = .returned (.bool (decide (lo ≤ n ∧ n ≤ hi))) ∧ w = w' := by
  by_cases h1 : lo ≤ n
  · by_cases h2 : n ≤ hi
    · rw [decide_eq_true (And.intro h1 h2)]
      go_enter Try.func44, Try.ntmps44
      go_wp2
      go_ret
      exact ⟨rfl, rfl⟩
    · rw [decide_eq_false (fun h => h2 h.2)]
      go_enter Try.func44, Try.ntmps44
      go_wp2
      go_ret
      exact ⟨rfl, rfl⟩
  · rw [decide_eq_false (fun h => h1 h.1)]
    go_enter Try.func44, Try.ntmps44
    go_wp2
    go_ret
    exact ⟨rfl, rfl⟩

/-- 'append(dst, s...)', s a text. -/
theorem wp_append_text8 {ops : Array Oper} {rest : List Oper} {o : Oper} {a : Act} {Q : Exit → Act → World → Prop} {w : World} (hgd : o.guard = none) (s x : Operand)
    (ho : o.op = .call { callee := .builtin .append, args := #[s, x], argTypes := #[46, 9] }) (base n : Nat) (v : Value) (xs : List Value) (hs : a.eval s = v) (hown : w.ownsRow base 5 1 v n xs)
    (t : ByteArray) (hx : a.eval x = .string t) (hb : n + t.size ≤ 140737488355328) (hbase : base ≤ w.heap.size)
    (h : ∀ v' w', w'.ownsRow base 5 1 v' (n + t.size) (xs ++ (bytesOf t).map (Value.int .u8)) → Below base w w' → wpList Try.prog ops Q rest (a.put o.dst v') w') : wpList Try.prog ops Q (o :: rest) a w := by
  obtain ⟨i0, hi, hz0, hz1, hz2⟩ := info_parts info5
  refine Lib.wpList_append_own_string (P := Try.prog) w hgd s x 46 9 ho base 5 i0 Try.underlying46 Try.underlying9 hi hz0 hz1 hz2 v n xs hs hown t hx (by unfold maxLen; omega) hb hbase (fun v' w' h1 h2 _ => h v' w' (by rw [← strCells_bytes]; exact h1) ((Below.refl base w).grown h2 hbase (fun k hk => (hown.lt k hk).1)))

theorem put08 {base : Nat} {w : World} {v : Value} {len : Nat} {zs : List Int} {n : Int} {kz : Int} (k : Nat) (e : kz = k) (hown : w.ownsRow base 5 1 v len (zs.map (Value.int .u8))) (hbase : base ≤ w.heap.size)
    (hn : 0 ≤ n ∧ n ≤ 1073741824) (hk : k ≤ 8) (hlen : len ≤ 1000) : Calls Try.prog 45 #[v, .int .i64 n, .int .i64 kz] w (PutPost base w (len + k) (zs ++ leB n k)) := by
  subst e
  exact Put04_any base v len zs n k w hown hbase hn.1 (by omega) hk (by omega)

theorem seal08 {base n : Nat} {w : World} {v : Value} {zs : List Int} (h : w.ownsRow base 5 1 v n (zs.map (Value.int .u8))) (hz : ∀ z ∈ zs, 0 ≤ z ∧ z ≤ 255) (hn : n ≤ 1000) : Calls Try.prog 46 #[v] w (Gives w.heap.size w (sealOf sumS zs)) := by
  obtain ⟨ao, cap, rfl, hA, _⟩ := fresh_of_owns h hz (by omega)
  exact Seal04_any ao _ cap zs w hA

/-- A field of a variable that was made. -/
theorem made_at (w : World) (cs : Array Value) (T : TypeId) (j : Nat) (v : Value) (h : cs[j]? = some v) : (w.alloc (.cells cs T)).cell? ⟨w.heap.size, j, none⟩ = some v := by
  rw [World.cell?_alloc_new]
  exact h

/-- Behind a variable that was made: an empty list. -/
theorem made_empty (w : World) (cs : Array Value) (T : TypeId) : Hid (((w.alloc (.cells cs T)).alloc (.cells #[] 5)).ownsRow (w.heap.size + 1) 5 1 (.slice (some ⟨w.heap.size + 1, 0, none⟩) 0 0) 0 []) ∧ Hid (Below (w.heap.size + 1) (w.alloc (.cells cs T)) ((w.alloc (.cells cs T)).alloc (.cells #[] 5))) := by
  have h1 := World.ownsRow_made (base := (w.alloc (.cells cs T)).heap.size) (e := 5) (size := 1) (w.alloc (.cells cs T)) #[] 0 (Nat.le_refl _) (by decide) rfl
  have h2 : Below (w.alloc (.cells cs T)).heap.size (w.alloc (.cells cs T)) ((w.alloc (.cells cs T)).alloc (.cells #[] 5)) := (Below.refl _ _).alloc (Nat.le_refl _) _
  rw [World.size_alloc] at h1 h2
  exact ⟨Lib.hid h1, Lib.hid h2⟩

set_option maxHeartbeats 1600000 in
theorem put08_any (h : PHead) (w : World) (hi : h.in64) : Calls Try.prog 25 #[h.val] w (Handed w.heap.size w (headOut h) (headErr h)) := by
  obtain ⟨a, b⟩ := h
  obtain ⟨ia, ib⟩ := hi
  unfold PHead.val
  by_cases ha : 0 ≤ a ∧ a ≤ 39
  case neg =>
    have HE : Hid (headErr (⟨a, b⟩ : PHead) = 2 ∧ headOut (⟨a, b⟩ : PHead) = []) := Lib.hid (by
      have e : (⟨a, b⟩ : PHead).sound = false := by unfold PHead.sound; rw [decide_eq_false_iff_not]; intro h; have h1 : 0 ≤ a ∧ a ≤ 39 ∧ 1 ≤ b ∧ b ≤ 1073741824 := h; exact ha (by omega)
      unfold headErr headOut; rw [e]; exact ⟨rfl, rfl⟩)
    have ca := Lib.hid (decide_eq_false ha)
    clear ha
    go_enter Try.func25, Try.ntmps25
    go_wp2_with (first | (go_at_call 44; refine (in08_any _ _ _ _).mono ?_; rintro e w1 ⟨rfl, rfl⟩; first | rw [ca.out]))
    go_ret2
    exact ⟨.slice none 0 0, by rw [HE.out.1]; rfl, by rw [HE.out.2]; exact Fresh.nil _ _, (Below.refl _ _).alloc (Nat.le_refl _) _⟩
  by_cases hb : 1 ≤ b ∧ b ≤ 1073741824
  case neg =>
    have HE : Hid (headErr (⟨a, b⟩ : PHead) = 2 ∧ headOut (⟨a, b⟩ : PHead) = []) := Lib.hid (by
      have e : (⟨a, b⟩ : PHead).sound = false := by unfold PHead.sound; rw [decide_eq_false_iff_not]; intro h; have h1 : 0 ≤ a ∧ a ≤ 39 ∧ 1 ≤ b ∧ b ≤ 1073741824 := h; exact hb (by omega)
      unfold headErr headOut; rw [e]; exact ⟨rfl, rfl⟩)
    have ca := Lib.hid (decide_eq_true ha)
    have cb := Lib.hid (decide_eq_false hb)
    clear ha hb
    go_enter Try.func25, Try.ntmps25
    go_wp2_with (first | (go_at_call 44; refine (in08_any _ _ _ _).mono ?_; rintro e w1 ⟨rfl, rfl⟩; first | rw [ca.out] | rw [cb.out]))
    go_ret2
    exact ⟨.slice none 0 0, by rw [HE.out.1]; rfl, by rw [HE.out.2]; exact Fresh.nil _ _, (Below.refl _ _).alloc (Nat.le_refl _) _⟩
  have HE : Hid (headErr (⟨a, b⟩ : PHead) = 0 ∧ headOut (⟨a, b⟩ : PHead) = sealOf sumS (headB (⟨a, b⟩ : PHead))) := Lib.hid (by
    have e : (⟨a, b⟩ : PHead).sound = true := by unfold PHead.sound; rw [decide_eq_true_iff]; show 0 ≤ a ∧ a ≤ 39 ∧ 1 ≤ b ∧ b ≤ 1073741824; omega
    unfold headErr headOut; rw [e]; exact ⟨rfl, rfl⟩)
  have ca := Lib.hid (decide_eq_true ha)
  have Ha : Hid (0 ≤ a ∧ a ≤ 1073741824) := Lib.hid (by omega)
  have cb := Lib.hid (decide_eq_true hb)
  have Hb : Hid (0 ≤ b ∧ b ≤ 1073741824) := Lib.hid (by omega)
  clear ha hb
  obtain ⟨W, hW⟩ : ∃ W, W = w.alloc (.cells #[.int .i64 a, .int .i64 b] 58) := ⟨_, rfl⟩
  have HBW : Hid (Below w.heap.size w W) := Lib.hid (by rw [hW]; exact (Below.refl _ _).alloc (Nat.le_refl _) _)
  have F0a : Hid (W.cell? ⟨w.heap.size, 0, none⟩ = some (.int .i64 a)) := Lib.hid (by rw [hW]; exact made_at _ _ _ _ _ rfl)
  have F0b : Hid (W.cell? ⟨w.heap.size, 1, none⟩ = some (.int .i64 b)) := Lib.hid (by rw [hW]; exact made_at _ _ _ _ _ rfl)
  have HWL : Hid (w.heap.size ≤ W.heap.size) := Lib.hid HBW.out.size
  have HW := Lib.hid hW
  clear hW
  obtain ⟨HM, HN⟩ := made_empty w #[.int .i64 a, .int .i64 b] 58
  go_enter Try.func25, Try.ntmps25
  go_wp2_with (first
    | (go_at_call 44; refine (in08_any _ _ _ _).mono ?_; rintro e w1 ⟨rfl, rfl⟩; first | rw [ca.out] | rw [cb.out])
    | (go_at_call 46; refine (seal08 O3.out (headB_bytes (⟨a, b⟩ : PHead)) (by decide)).mono ?_; rintro e w4 ⟨v4, rfl, h5, b5⟩; have B4 := Lib.hid (B3.out.trans (b5.mono B3.out.size)); have R4 := Lib.hid (h5.mono (Nat.le_trans HWL.out B3.out.size)); clear h5 b5)
    | (go_at_call 45; refine (put08 4 rfl O2.out (B2.out.size) Hb.out (by decide) (by decide)).mono ?_; rintro e w3 ⟨v3, rfl, h5, b5⟩; have B3 := Lib.hid (B2.out.trans b5); have O3 := Lib.hid h5; have f3a := cell_later B3.out F0a.out; have f3b := cell_later B3.out F0b.out; clear h5 b5)
    | (go_at_call 45; refine (put08 4 rfl O1.out (B1.out.size) Ha.out (by decide) (by decide)).mono ?_; rintro e w2 ⟨v2, rfl, h5, b5⟩; have B2 := Lib.hid (B1.out.trans b5); have O2 := Lib.hid h5; have f2a := cell_later B2.out F0a.out; have f2b := cell_later B2.out F0b.out; clear h5 b5)
    | (at_builtin; refine wp_append_text8 rfl (.tmp 15) _ rfl (w.heap.size + 1) 0 _ [] rfl HM.out _ rfl (by decide) (by simp) ?_; intro v1 w1 hown1 hb1; have hb2 := HN.out.trans hb1; rw [← World.size_alloc w (.cells #[.int .i64 a, .int .i64 b] 58), ← HW.out] at hown1 hb2; have B1 := Lib.hid hb2; have O1 : Hid (w1.ownsRow W.heap.size 5 1 v1 4 (headT.map (Value.int .u8))) := Lib.hid hown1; have f1a := cell_later B1.out F0a.out; have f1b := cell_later B1.out F0b.out; clear hown1 hb1 hb2))
  go_ret2
  exact ⟨_, by rw [HE.out.1]; rfl, by rw [HE.out.2]; exact R4.out, HBW.out.trans (B4.out.mono HWL.out)⟩

end Go.Proofs.Ytbnepjojfaeggaa

namespace Go.Proofs.Ytbnepjojfaeggaa
open Go.RowKit

theorem num04 {w : World} {ao : Option Addr} {len cap : Nat} {zs : List Int} {pz kz : Int} (hB : Bts w ao len zs) (hk : kz.toNat ≤ 4) (hpk : pz.toNat + kz.toNat ≤ len) (h0 : 0 ≤ pz ∧ 0 ≤ kz) :
    Calls Try.prog 39 #[.slice ao len cap, .int .i64 pz, .int .i64 kz] w fun e w' => e = .returned (.int .i64 (leN zs pz.toNat kz.toNat)) ∧ w' = w := by
  obtain ⟨p, rfl⟩ := Int.eq_ofNat_of_zero_le h0.1
  obtain ⟨k, rfl⟩ := Int.eq_ofNat_of_zero_le h0.2
  exact (Num04_any ao len cap zs p k w hB hk hpk).mono (fun e w' h => ⟨h.1, h.2.symm⟩)

/-- A byte is as it was, as a greater number. -/
theorem byte_at {zs : List Int} {n : Nat} (hz : ∀ z ∈ zs, 0 ≤ z ∧ z ≤ 255) (hl : zs.length = n) {k : Nat} (hk : k < n) : IntKind.i64.wrap (zs.getD k 0) = zs.getD k 0 ∧ i64w (zs.getD k 0) := by
  have h := hz _ (getD_mem (l := zs) (k := k) (by omega))
  exact ⟨by rw [IntKind.wrap_i64]; omega, by unfold i64w; omega⟩

theorem leN_in {zs : List Int} (hz : ∀ z ∈ zs, 0 ≤ z ∧ z ≤ 255) {p k : Nat} (h : p + k ≤ zs.length) (hk : k ≤ 4) : i64w (leN zs p k) := by
  have := leN_four hz p k h hk
  unfold i64w
  omega

/-- Two variables that were made, behind a draw. -/
theorem two_made {w w5 : World} {T : TypeId} {c0 c1 : Array Value} (hb : Below (((w.alloc (.cells c0 T)).alloc (.cells c1 T)).drew).heap.size (((w.alloc (.cells c0 T)).alloc (.cells c1 T)).drew) w5) :
    (∀ j v, c0[j]? = some v → w5.cell? ⟨w.heap.size, j, none⟩ = some v) ∧ (∀ j, w5.frozen? ⟨w.heap.size, j, none⟩ = false) ∧ (∀ j v, c1[j]? = some v → w5.cell? ⟨w.heap.size + 1, j, none⟩ = some v) ∧ Below w.heap.size w w5 := by
  have b1 : Below (w.alloc (.cells c0 T)).heap.size (w.alloc (.cells c0 T)) w5 := (((Below.refl _ _).alloc (Nat.le_refl _) _).drew).trans (hb.mono (by simp))
  refine ⟨fun j v h => cell_later b1 (by rw [World.cell?_alloc_new]; exact h), fun j => ?_, fun j v h => ?_, (((Below.refl _ _).alloc (Nat.le_refl _) _).trans (b1.mono (by simp)))⟩
  · rw [b1.frozen (p := ⟨w.heap.size, j, none⟩) (by simp), World.frozen?_alloc_mark]
    simp
  · refine cell_later hb ?_
    show ((w.alloc (.cells c0 T)).alloc (.cells c1 T)).cell? ⟨w.heap.size + 1, j, none⟩ = some v
    rw [← World.size_alloc w (.cells c0 T), World.cell?_alloc_new]
    exact h

set_option maxHeartbeats 1600000 in
theorem get08_any (ao : Option Addr) (len cap : Nat) (zs : List Int) (w : World) (hA : Arg w ao len cap zs) : Calls Try.prog 22 #[.slice ao len cap] w fun e w' => e = .returned (.tuple #[(getHead zs).val, .int .i64 (getHeadErr zs)]) ∧ Below w.heap.size w w' := by
  have hB := hA.1
  by_cases h64 : len = 64
  case neg =>
    have hI : isHead zs = false := by unfold isHead; rw [hB.1, decide_eq_false h64]; rfl
    have HE : Hid (getHeadErr zs = 2 ∧ getHead zs = noHead) := Lib.hid (by unfold getHeadErr getHead; rw [hI]; exact ⟨rfl, rfl⟩)
    have hne : ((len : Int) == 64) = false := by simp; omega
    have B0 : Hid (Below w.heap.size w (w.alloc (.cells #[.int .i64 0, .int .i64 0] 58))) := Lib.hid ((Below.refl _ _).alloc (Nat.le_refl _) _)
    clear hI hB hA
    go_enter Try.func22, Try.ntmps22
    go_wp2_with fail
    refine bodyPost_ret (v := .tuple #[(noHead).val, .int .i64 2]) ?_ rfl ⟨by rw [HE.out.1, HE.out.2], B0.out⟩
    rw [results_cell_tmp rfl]
    go_simp
    try rfl
  subst h64
  have HB := Lib.hid hB
  obtain ⟨g, off, rfl, hc⟩ := hB.2.2.2.resolve_left (by decide)
  have f4 := hc 4 (by decide)
  have hx4 := byte_at hB.2.2.1 hB.1 (k := 4) (by decide)
  obtain ⟨x4, HX4⟩ : ∃ x, Hid (zs.getD 4 0 = x) := ⟨_, Lib.hid rfl⟩
  rw [HX4.out] at f4 hx4
  obtain ⟨hw4, hj4⟩ := hx4
  have IX4 := Lib.hid hj4
  have HF4 := Lib.hid f4
  clear hj4
  have IN0 : Hid (i64w (leN zs 8 4)) := Lib.hid (leN_in hB.2.2.1 (by rw [hB.1]; decide) (by decide))
  have HS : Hid (readHead zs = (⟨x4, leN zs 8 4⟩ : PHead)) := Lib.hid (by unfold readHead; rw [HX4.out])
  have HK : Hid (∀ W, Below w.heap.size w W → W.cell? ⟨g, off + 4, none⟩ = some (.int .u8 x4) ∧ Hid (Below w.heap.size w W)) := Lib.hid (fun W h => ⟨cell_later h HF4.out, Lib.hid h⟩)
  have Bn : Hid (Below w.heap.size w (w.alloc (.cells #[.int .i64 0, .int .i64 0] 58))) := Lib.hid ((Below.refl _ _).alloc (Nat.le_refl _) _)
  have B0 := Lib.hid Bn.out.drew
  have B1 : Hid (Below w.heap.size w ((w.alloc (.cells #[.int .i64 0, .int .i64 0] 58)).drew.alloc (.cells #[.int .i64 0, .int .i64 0] 58))) := Lib.hid (B0.out.alloc B0.out.size _)
  clear hB hA hc f4
  obtain ⟨E, O, hEO⟩ : ∃ E O, headErr (⟨x4, leN zs 8 4⟩ : PHead) = E ∧ headOut (⟨x4, leN zs 8 4⟩ : PHead) = O := ⟨_, _, rfl, rfl⟩
  have cE := fun (W : World) => put08_any (⟨x4, leN zs 8 4⟩ : PHead) W ⟨IX4.out, IN0.out⟩
  rw [hEO.1, hEO.2] at cE
  have HEO := Lib.hid hEO
  clear hEO
  have H3 : Hid ((E = 2 ∧ getHeadErr zs = 2 ∧ getHead zs = noHead) ∨ (E = 0 ∧ ((str O).toList == (str zs).toList) = true ∧ getHeadErr zs = 0 ∧ getHead zs = ⟨x4, leN zs 8 4⟩) ∨ (E = 0 ∧ ((str O).toList == (str zs).toList) = false ∧ getHeadErr zs = 2 ∧ getHead zs = noHead)) := Lib.hid (by
    obtain ⟨e1, e2⟩ := HEO.out
    have hi : isHead zs = ((⟨x4, leN zs 8 4⟩ : PHead).sound && decide (headBlock ⟨x4, leN zs 8 4⟩ = zs)) := by
      unfold isHead
      rw [HB.out.1, HS.out]
      rfl
    unfold getHeadErr getHead
    rw [hi]
    unfold headErr headOut at *
    by_cases hs : (⟨x4, leN zs 8 4⟩ : PHead).sound = true
    · rw [if_pos hs] at e1 e2
      have hv : ((str O).toList == (str zs).toList) = decide (O = zs) := str_eq (by rw [← e2]; exact sealOf_bytes (headB_bytes _)) HB.out.2.2.1
      rw [hv, hs, Bool.true_and, e2]
      by_cases ho : O = zs
      · right; left
        rw [decide_eq_true ho]
        exact ⟨e1.symm, rfl, rfl, HS.out⟩
      · right; right
        rw [decide_eq_false ho]
        exact ⟨e1.symm, rfl, rfl, rfl⟩
    · left
      rw [if_neg hs] at e1
      rw [Bool.not_eq_true] at hs
      rw [hs]
      exact ⟨e1.symm, rfl, rfl⟩)
  go_enter Try.func22, Try.ntmps22
  go_wp2_with fail
  go_region_held (fun W => W.cell? ⟨g, off + 4, none⟩ = some (.int .u8 x4) ∧ Hid (Below w.heap.size w W)) (first | exact HK.out _ B0.out | exact HK.out _ B1.out | exact HK.out _ ((Bn.out.alloc Bn.out.size _).drew))
    (first | (go_at_call 39; refine (num04 (zs := zs) (HB.out.later (by first | exact B0.out | exact B1.out)) (by decide) (by decide) (by decide)).mono ?_; rintro e w' ⟨rfl, rfl⟩))
  all_goals
    rcases H3.out with ⟨h1, h2, h3⟩ | ⟨h1, h4, h2, h3⟩ | ⟨h1, h4, h2, h3⟩
  all_goals
    subst h1
    have G2 := Lib.hid h2
    have G3 := Lib.hid h3
    clear h2 h3
    go_wp2_with (first | (go_at_call 25; refine (cE _).mono ?_; rintro e w5 ⟨v5, rfl, hf5, hb5⟩; obtain ⟨t0, t1, t2, t3⟩ := two_made hb5; have B5 := Lib.hid t3; have k1 := fresh_str hf5; have k2 := str_bytes (cap := cap) (HB.out.later t3); have r0 := t0 0 _ rfl; have q0 := t1 0; have s0 := t2 0 _ rfl; have r1 := t0 1 _ rfl; have q1 := t1 1; have s1 := t2 1 _ rfl; clear t0 t1 t2 t3 hf5 hb5))
  all_goals
    refine bodyPost_ret (v := .tuple #[(getHead zs).val, .int .i64 (getHeadErr zs)]) ?_ rfl ⟨rfl, ((B5.out.setCell (Nat.le_refl _) _).setCell (Nat.le_refl _) _)⟩
    rw [G2.out, G3.out, results_cell_tmp rfl]
    go_simp
    try rfl

end Go.Proofs.Ytbnepjojfaeggaa

namespace Go.Proofs.Ytbnepjojfaeggaa
open Go.RowKit
set_option linter.unusedVariables false
set_option linter.unusedSimpArgs false

set_option maxHeartbeats 800000 in
theorem RHome_any (n : Int) (w : World) : Calls Try.prog 31 #[.int .i64 n] w fun e w' => e = .returned (.bool (homeB n)) ∧ w = w' := by
  by_cases h0 : n < 0
  · rw [show homeB n = false from decide_eq_false (by omega)]
    go_enter Try.func31, Try.ntmps31
    go_wp2_with fail
    go_ret
    exact ⟨rfl, rfl⟩
  · by_cases h1 : 480 ≤ n
    · rw [show homeB n = false from decide_eq_false (by omega)]
      go_enter Try.func31, Try.ntmps31
      go_wp2_with fail
      go_ret
      exact ⟨rfl, rfl⟩
    · by_cases h2 : n = 1
      · subst h2
        go_enter Try.func31, Try.ntmps31
        go_wp2_with fail
        go_ret
        exact ⟨rfl, rfl⟩
      · have b2 : (n != 1) = true := by simpa using h2
        have b3 : (n == 1) = false := by simpa using h2
        by_cases h3 : n < 19
        · rw [show homeB n = true from decide_eq_true (by omega)]
          clear h2
          go_enter Try.func31, Try.ntmps31
          go_wp2_with fail
          go_ret
          exact ⟨by first | rfl | simp, rfl⟩
        · by_cases h4 : 59 ≤ n
          · rw [show homeB n = true from decide_eq_true (by omega)]
            clear h2
            go_enter Try.func31, Try.ntmps31
            go_wp2_with fail
            go_ret
            exact ⟨by first | rfl | simp, rfl⟩
          · rw [show homeB n = false from decide_eq_false (by omega)]
            clear h2
            go_enter Try.func31, Try.ntmps31
            go_wp2_with fail
            go_ret
            exact ⟨by first | rfl | simp, rfl⟩

/-- A descriptor as a value. -/
def descV (seq : Int) (v : Value) : Value := .agg #[.int .i64 seq, v]

theorem sound_take_false {seq : Int} {to : List Int} {i : Nat} {x : Int} (hx : to[i]? = some x) (h : homeB x = false ∨ x ∈ to.take i) : soundD ⟨seq, to⟩ = false := by
  cases hs : soundD ⟨seq, to⟩ with
  | false => rfl
  | true =>
    unfold soundD at hs
    rw [Bool.and_eq_true, Bool.and_eq_true, decide_eq_true_eq, decide_eq_true_eq] at hs
    rcases h with h | h
    · have := List.all_eq_true.1 hs.2.1 x (List.mem_of_getElem? hx)
      rw [h] at this
      cases this
    · obtain ⟨hi, hx⟩ := List.getElem?_eq_some_iff.1 hx
      have hn := hs.2.2
      simp only at hn
      rw [← List.take_append_drop i to, List.nodup_append] at hn
      exact absurd rfl (hn.2.2 x h x (by rw [List.drop_eq_getElem_cons hi, hx]; exact List.mem_cons_self ..))
theorem sound_steps {seq : Int} {to : List Int} (h0 : 1 ≤ to.length ∧ to.length ≤ 20 ∧ 1 ≤ seq ∧ seq ≤ 1073741824) (h1 : to.all homeB = true) (h2 : to.Nodup) : soundD ⟨seq, to⟩ = true := by
  unfold soundD
  rw [Bool.and_eq_true, Bool.and_eq_true, decide_eq_true_eq, decide_eq_true_eq]
  exact ⟨h0, h1, h2⟩
theorem nodup_step {to : List Int} {i : Nat} {x : Int} (h : (to.take i).Nodup) (hx : to[i]? = some x) (hn : x ∉ to.take i) : (to.take (i + 1)).Nodup := by
  rw [List.take_add_one, hx]
  show (to.take i ++ [x]).Nodup
  rw [List.nodup_append]
  exact ⟨h, by simp, fun a ha b hb e => hn (by rw [List.mem_singleton.1 hb] at e; rw [← e]; exact ha)⟩

set_option maxRecDepth 100000 in
set_option maxHeartbeats 3200000 in
theorem RSound_any {w : World} {ao : Option Addr} {len cap : Nat} {to : List Int} (seq : Int) (hA : IArg w ao len cap to) :
    Calls Try.prog 30 #[.agg #[.int .i64 seq, .slice ao len cap]] w fun e w' => e = .returned (.bool (soundD ⟨seq, to⟩)) ∧ Below w.heap.size w w' := by
  have hlen := hA.len
  have HA := Lib.hid hA
  have HB0 : Hid (Below w.heap.size w (w.alloc (.cells #[.int .i64 seq, .slice ao len cap] 72))) := Lib.hid ((Below.refl _ _).alloc (Nat.le_refl _) _)
  have n1 : (w.alloc (.cells #[.int .i64 seq, .slice ao len cap] 72)).cell? ⟨w.heap.size, 1, none⟩ = some (.slice ao len cap) := by rw [World.cell?_alloc_new]; rfl
  have HL := Lib.hid hlen
  by_cases hb : 1 ≤ len ∧ len ≤ 20 ∧ 1 ≤ seq ∧ seq ≤ 1073741824
  · have HBB : Hid (1 ≤ to.length ∧ to.length ≤ 20 ∧ 1 ≤ seq ∧ seq ≤ 1073741824) := Lib.hid (by rw [hlen]; exact hb)
    obtain ⟨b1, b2, b3, b4⟩ := hb
    have c1 : (1 : Int) ≤ (len : Int) := by omega
    have c2 : (len : Int) ≤ 20 := by omega
    have HFB : Hid (∀ i x, to[i]? = some x → homeB x = false ∨ x ∈ to.take i → soundD ⟨seq, to⟩ = false) := Lib.hid (fun i x hx h => sound_take_false hx h)
    have HTR : Hid (to.all homeB = true → to.Nodup → soundD ⟨seq, to⟩ = true) := Lib.hid (sound_steps HBB.out)
    obtain ⟨S, hS⟩ : ∃ S, soundD ⟨seq, to⟩ = S := ⟨_, rfl⟩
    rw [hS] at HFB HTR
    rw [hS]
    clear hA hlen hS
    go_enter Try.func30, Try.ntmps30
    go_wp2_with fail
    obtain ⟨A, hA1⟩ : ∃ A, w.alloc (.cells #[.int .i64 seq, .slice ao len cap] 72) = A := ⟨_, rfl⟩
    rw [hA1] at HB0 n1 ⊢
    have N1 := Lib.hid n1
    clear hA1 n1
    go_loopw [3] (fun iv wr => ∃ i : Nat, iv = .int .i64 (i : Int) ∧ i ≤ len ∧ Hid ((to.take i).all homeB = true) ∧ Hid ((to.take i).Nodup) ∧ Hid (Below A.heap.size A wr)) (fun iv _ => len - (intOf iv).toNat)
    case atStart => exact ⟨0, rfl, Nat.zero_le _, Lib.hid rfl, Lib.hid (by rw [List.take_zero]; exact List.nodup_nil), Lib.hid (Below.refl _ _)⟩
    case round =>
      obtain ⟨i, rfl, hi, HH, HN, HBR⟩ := hrel
      by_cases hlt : i < len
      · obtain ⟨fb, fo, x, rfl, hx, hc, _⟩ := HA.out.at hlt
        have d1 : wr.cell? ⟨fb, fo + i, none⟩ = some (.int .i64 x) := cell_later HBR.out (cell_later HB0.out hc)
        have n2 := cell_later HBR.out N1.out
        have i1 : (i : Int) < (len : Int) := by omega
        have i0 : (0 : Int) ≤ (i : Int) := by omega
        have HX := Lib.hid hx
        have HCX := Lib.hid hc
        have cH := RHome_any x
        clear hc hx
        cases hh : homeB x with
        | false =>
          rw [hh] at cH
          have HE : Hid (S = false) := Lib.hid (HFB.out i x HX.out (Or.inl hh))
          clear hh
          go_wp2_with (go_at_call 31; refine (cH _).mono ?_; rintro e w3 ⟨rfl, rfl⟩)
          go_ret
          exact ⟨by rw [HE.out]; rfl, HB0.out.trans (HBR.out.mono HB0.out.size)⟩
        | true =>
          rw [hh] at cH
          have HH2 : Hid ((to.take (i + 1)).all homeB = true) := Lib.hid (by rw [List.take_add_one, HX.out, List.all_append, HH.out]; simp [hh])
          clear hh
          go_wp2_with (go_at_call 31; refine (cH _).mono ?_; rintro e w3 ⟨rfl, rfl⟩)
          clear d1 n2
          obtain ⟨W1, hW1⟩ : ∃ W1, wr = W1 := ⟨_, rfl⟩
          rw [hW1] at HBR ⊢
          clear hW1 wr
          go_loopw [4] (fun kv wr => ∃ k : Nat, kv = .int .i64 (k : Int) ∧ k ≤ i ∧ Hid (x ∉ to.take k) ∧ Hid (Below A.heap.size A wr)) (fun kv _ => i - (intOf kv).toNat)
          case atStart => exact ⟨0, rfl, Nat.zero_le _, Lib.hid (by simp), HBR⟩
          case round =>
            obtain ⟨k, rfl, hk, HK, HBK⟩ := hrel
            by_cases hkl : k < i
            · obtain ⟨fb', fo', y, he, hy, hc, _⟩ := HA.out.at (show k < len by omega)
              simp only [Option.some.injEq, Addr.mk.injEq, and_true] at he
              obtain ⟨rfl, rfl⟩ := he
              have d2 : wr.cell? ⟨fb, fo + k, none⟩ = some (.int .i64 y) := cell_later HBK.out (cell_later HB0.out hc)
              have d1 : wr.cell? ⟨fb, fo + i, none⟩ = some (.int .i64 x) := cell_later HBK.out (cell_later HB0.out HCX.out)
              have n2 := cell_later HBK.out N1.out
              have k1 : (k : Int) < (i : Int) := by omega
              have k2 : (k : Int) < (len : Int) := by omega
              have HY := Lib.hid hy
              clear hc hy
              by_cases hxy : y = x
              · have HE : Hid (S = false) := Lib.hid (HFB.out i x HX.out (Or.inr (by
                  rw [← hxy]
                  refine List.mem_of_getElem? (i := k) ?_
                  rw [List.getElem?_take, if_pos hkl]
                  exact HY.out)))
                have b5 : (y == x) = true := by simpa using hxy
                clear hxy
                go_wp2_with fail
                go_quiet (fail)
                go_wp2_with fail
                go_ret
                exact ⟨by rw [HE.out]; rfl, HB0.out.trans ((below_drewN HBK.out _).mono HB0.out.size)⟩
              · have HK2 : Hid (x ∉ to.take (k + 1)) := Lib.hid (by
                  rw [List.take_add_one, HY.out, List.mem_append]
                  rintro (h | h)
                  · exact HK.out h
                  · simp at h; exact hxy h.symm)
                have b5 : (y == x) = false := by simpa using hxy
                clear hxy
                go_wp2_with fail
                go_quiet (fail)
                go_wp2_with fail
                go_roundw
                case rel => exact ⟨k + 1, by go_num, by omega, HK2, Lib.hid (below_drewN HBK.out _)⟩
                case measure => simp [intOf]; omega
            · obtain rfl : k = i := by omega
              have HN2 : Hid ((to.take (k + 1)).Nodup) := Lib.hid (nodup_step HN.out HX.out HK.out)
              go_wp2_with fail
              go_roundw
              case rel => exact ⟨k + 1, by go_num, by omega, HH2, HN2, HBK⟩
              case measure => simp [intOf]; omega
      · obtain rfl : i = len := by omega
        have n2 := cell_later HBR.out N1.out
        have HE : Hid (S = true) := Lib.hid (HTR.out (by have := HH.out; rwa [List.take_of_length_le (by rw [HL.out]; exact Nat.le_refl _)] at this) (by have := HN.out; rwa [List.take_of_length_le (by rw [HL.out]; exact Nat.le_refl _)] at this))
        go_wp2_with fail
        go_ret
        exact ⟨by rw [HE.out]; rfl, HB0.out.trans (HBR.out.mono HB0.out.size)⟩
  · have HE : Hid (soundD ⟨seq, to⟩ = false) := Lib.hid (by
      unfold soundD
      rw [decide_eq_false (by rw [hlen]; exact hb)]
      rfl)
    have HNB : Hid (¬ (1 ≤ len ∧ len ≤ 20 ∧ 1 ≤ seq ∧ seq ≤ 1073741824)) := Lib.hid hb
    rw [HE.out]
    clear hA hlen hb
    go_enter Try.func30, Try.ntmps30
    go_wp2_with fail
    all_goals (try (exfalso; have := HNB.out; omega))
    all_goals go_ret
    all_goals exact ⟨rfl, HB0.out⟩

end Go.Proofs.Ytbnepjojfaeggaa

namespace Go.Proofs.Ytbnepjojfaeggaa
open Go.RowKit
set_option linter.unusedVariables false
set_option linter.unusedSimpArgs false

theorem wp_append_text {ops : Array Oper} {rest : List Oper} {o : Oper} {a : Act} {Q : Exit → Act → World → Prop} {w : World} (hgd : o.guard = none) (s x : Operand)
    (ho : o.op = .call { callee := .builtin .append, args := #[s, x], argTypes := #[46, 9] }) (base n : Nat) (v : Value) (xs : List Value) (hs : a.eval s = v) (hown : w.ownsRow base 5 1 v n xs)
    (t : ByteArray) (hx : a.eval x = .string t) (hb : n + t.size ≤ 140737488355328) (hbase : base ≤ w.heap.size)
    (h : ∀ v' w', w'.ownsRow base 5 1 v' (n + t.size) (xs ++ (bytesOf t).map (Value.int .u8)) → Below base w w' → wpList Try.prog ops Q rest (a.put o.dst v') w') : wpList Try.prog ops Q (o :: rest) a w := by
  obtain ⟨v', w', hrun, h1, h2⟩ := run_append_text w o.type base n v xs hown t hb hbase
  refine wpList_plain hgd fun K hK => ?_
  unfold Oper.wp
  simp [execOp, ho, resolve, invoke, builtin, hs, hx, hrun, Result.andThen]
  exact hK _ _ (h v' w' h1 h2)

theorem put04 {base : Nat} {w : World} {v : Value} {len : Nat} {zs : List Int} {n : Int} {kz : Int} (k : Nat) (e : kz = k) (hown : w.ownsRow base 5 1 v len (zs.map (Value.int .u8))) (hbase : base ≤ w.heap.size)
    (hn : 0 ≤ n ∧ n ≤ 1073741824) (hk : k ≤ 8) (hlen : len ≤ 1000) : Calls Try.prog 45 #[v, .int .i64 n, .int .i64 kz] w (PutPost base w (len + k) (zs ++ leB n k)) := by
  subst e
  exact Put04_any base v len zs n k w hown hbase hn.1 (by omega) hk (by omega)

theorem seal04 {base n : Nat} {w : World} {v : Value} {zs : List Int} (h : w.ownsRow base 5 1 v n (zs.map (Value.int .u8))) (hz : ∀ z ∈ zs, 0 ≤ z ∧ z ≤ 255) (hn : n ≤ 1000) : Calls Try.prog 46 #[v] w (Gives w.heap.size w (sealOf sumS zs)) := by
  obtain ⟨ao, cap, rfl, hA, _⟩ := fresh_of_owns h hz (by omega)
  exact Seal04_any ao _ cap zs w hA

/-- A list that was just made, empty. -/
theorem empty_new (w : World) : (w.alloc (.cells #[] 5)).ownsRow w.heap.size 5 1 (.slice (some ⟨w.heap.size, 0, none⟩) 0 0) 0 [] :=
  World.ownsRow_made (base := w.heap.size) (e := 5) (size := 1) w #[] 0 (Nat.le_refl _) (by decide) rfl

theorem okEnd_iff (seq c : Int) : okEnd seq c = true ↔ 1 ≤ seq ∧ seq ≤ 1073741824 ∧ 1 ≤ c ∧ c ≤ 20 := by unfold okEnd; rw [decide_eq_true_eq]

/-- A block's first fields, and its first numbers. -/
def begP (seq : Int) (to : List Int) (i : Nat) : List Int := [66, 69, 71, 78] ++ leB seq 4 ++ leB to.length 2 ++ toL (to.take i)
theorem begP_step {seq : Int} {to : List Int} {i : Nat} {x : Int} (h : to[i]? = some x) : begP seq to i ++ leB x 2 = begP seq to (i + 1) := by
  unfold begP toL
  rw [List.take_add_one, h, List.flatMap_append, List.append_assoc]
  simp

end Go.Proofs.Ytbnepjojfaeggaa

namespace Go.Proofs.Ytbnepjojfaeggaa
open Go.RowKit
set_option linter.unusedVariables false
set_option linter.unusedSimpArgs false

theorem num15 {w : World} {ao : Option Addr} {len cap : Nat} {zs : List Int} {pz kz : Int} (hB : Bts w ao len zs) (hk : kz.toNat ≤ 4) (hpk : pz.toNat + kz.toNat ≤ len) (h0 : 0 ≤ pz ∧ 0 ≤ kz) :
    Calls Try.prog 39 #[.slice ao len cap, .int .i64 pz, .int .i64 kz] w fun e w' => e = .returned (.int .i64 (leN zs pz.toNat kz.toNat)) ∧ w' = w := by
  obtain ⟨p, rfl⟩ := Int.eq_ofNat_of_zero_le h0.1
  obtain ⟨k, rfl⟩ := Int.eq_ofNat_of_zero_le h0.2
  exact (Num04_any ao len cap zs p k w hB hk hpk).mono (fun e w' h => ⟨h.1, h.2.symm⟩)

end Go.Proofs.Ytbnepjojfaeggaa

namespace Go.Proofs.Ytbnepjojfaeggaa
open Go.RowKit
set_option linter.unusedVariables false
set_option linter.unusedSimpArgs false

/-- What Begins hands back. -/
def HandedD (base : Nat) (w0 : World) (d : PDesc) (err : Int) (e : Ending) (w' : World) : Prop :=
  ∃ v, e = .returned (.tuple #[.agg #[.int .i64 d.seq, v], .int .i64 err]) ∧ FreshI w' base v d.to ∧ Below base w0 w'

theorem cell_under {base : Nat} {w w' : World} {p : Addr} {v : Value} (hb : Below base w w') (h : w.cell? p = some v) (hp : p.block < base) : w'.cell? p = some v := by
  rw [← h]
  unfold World.cell?
  rw [hb.block p.block hp]

theorem frozen_under {base : Nat} {w w' : World} {g : Nat} (hb : Below base w w') (h : ∀ j, w.frozen? ⟨g, j, none⟩ = false) (hp : g < base) : ∀ j, w'.frozen? ⟨g, j, none⟩ = false := fun j => by
  rw [World.frozen?_of_block (w := w) (a := ⟨g, j, none⟩) (hb.block g hp)]; exact h j

/-- A descriptor's variable: its number, and its list. -/
def DVar (w0 : World) (g : Nat) (s : Int) (sl : Value) (wr : World) : Prop :=
  Below w0.heap.size w0 wr ∧ wr.cell? ⟨g, 0, none⟩ = some (.int .i64 s) ∧ wr.cell? ⟨g, 1, none⟩ = some sl ∧ ∀ j, wr.frozen? ⟨g, j, none⟩ = false
theorem DVar.lt {w0 wr : World} {g : Nat} {s : Int} {sl : Value} (h : DVar w0 g s sl wr) : g < wr.heap.size := World.block_lt_of_cell? _ _ h.2.1
theorem DVar.later {w0 wr wx : World} {g : Nat} {s : Int} {sl : Value} (h : DVar w0 g s sl wr) (hb : Below wr.heap.size wr wx) : DVar w0 g s sl wx :=
  ⟨h.1.trans (hb.mono h.1.size), cell_later hb h.2.1, cell_later hb h.2.2.1, fun j => by rw [hb.frozen (p := ⟨g, j, none⟩) h.lt]; exact h.2.2.2 j⟩
theorem DVar.under {w0 wr wx : World} {g base : Nat} {s : Int} {sl : Value} (h : DVar w0 g s sl wr) (hb : Below base wr wx) (hg : g < base) (h0 : w0.heap.size ≤ g) : DVar w0 g s sl wx :=
  ⟨h.1.trans (hb.mono (by omega)), cell_under hb h.2.1 hg, cell_under hb h.2.2.1 hg, frozen_under hb h.2.2.2 hg⟩
theorem DVar.setSl {w0 wr : World} {g : Nat} {s : Int} {sl sl' : Value} (h : DVar w0 g s sl wr) (hg : w0.heap.size ≤ g) : DVar w0 g s sl' (wr.setCell ⟨g, 1, none⟩ sl') :=
  ⟨h.1.setCell (p := ⟨g, 1, none⟩) hg _, by rw [World.cell?_setCell_other (h := by simp)]; exact h.2.1, World.cell?_setCell_same wr _ _ h.2.2.1, fun j => by simpa using h.2.2.2 j⟩
theorem DVar.drew {w0 wr : World} {g : Nat} {s : Int} {sl : Value} (h : DVar w0 g s sl wr) : DVar w0 g s sl wr.drew := ⟨h.1.drew, h.2.1, h.2.2.1, fun j => h.2.2.2 j⟩
theorem dvar_new (w0 : World) (s : Int) : DVar w0 w0.heap.size s (.slice none 0 0) (w0.alloc (.cells #[.int .i64 s, .slice none 0 0] 72)) := by
  refine ⟨(Below.refl _ _).alloc (Nat.le_refl _) _, ?_, ?_, fun j => by rw [World.frozen?_alloc_mark]; simp⟩
  · rw [World.cell?_alloc_new]; rfl
  · rw [World.cell?_alloc_new]; rfl

theorem owns_setCell {w : World} {base n sz g k : Nat} {e : TypeId} {v u : Value} {xs : List Value} (h : w.ownsRow base e sz v n xs) (hg : g < base) : (w.setCell ⟨g, k, none⟩ u).ownsRow base e sz v n xs := by
  refine ⟨h.1, ?_⟩
  rcases h.2 with h2 | ⟨g', cap, cur, hv, hg', hh, rest⟩
  · exact Or.inl h2
  · refine Or.inr ⟨g', cap, cur, hv, hg', ?_, rest⟩
    rw [Below.heap_setCell _ _ _ _ (by show g' ≠ g; omega)]
    exact hh

theorem owns_drew {w : World} {base n sz : Nat} {e : TypeId} {v : Value} {xs : List Value} (h : w.ownsRow base e sz v n xs) : w.drew.ownsRow base e sz v n xs := h

/-- The numbers that are read, so far. -/
def toR (zs : List Int) (i : Nat) : List Int := (List.range i).map fun (k : Nat) => leN zs (10 + 2 * k) 2
theorem toR_step (zs : List Int) (i : Nat) : toR zs (i + 1) = toR zs i ++ [leN zs (10 + 2 * i) 2] := by
  unfold toR
  rw [List.range_succ, List.map_append]
  rfl

theorem one_new (w : World) (x : Int) : (w.alloc (.cells #[.int .i64 x] 3)).cell? ⟨w.heap.size, 0, none⟩ = some (.int .i64 x) := by rw [World.cell?_alloc_new]; rfl

end Go.Proofs.Ytbnepjojfaeggaa
