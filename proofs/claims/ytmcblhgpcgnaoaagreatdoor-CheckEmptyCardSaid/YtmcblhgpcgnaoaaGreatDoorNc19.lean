/-
  Proved here: what the document's own making of blocks of Supers and Heads (drydockref08: Encode, PutHead) answers. The conditions stand at each theorem. Proved here: what the document's own Empty of layer 17 answers. The conditions stand at each theorem. Proved here: the closed facts of the row of CheckEmpty. No conditions.
-/
import Derived.Test.YtmcblhgpcgnaoaaGreatDoorNc1
import Derived.Test.YtmcblhgpcgnaoaaGreatDoorNc0
import Derived.Test.YtmcblhgpcgnaoaaGreatDoorNc18
import Derived.Test.YtmcblhgpcgnaoaaGreatDoorNc16
import Derived.Test.YtmcblhgpcgnaoaaGreatDoorNc17
import Derived.Test.YtmcblhgpcgnaoaaGreatDoorRows
import Derived.JoinedCond
import Derived.KernelRfl
namespace Go.Proofs.YtmcblhgpcgnaoaaGreatDoor
open Go.RowKit

theorem in08_any (n lo hi : Int) (w : World) : Calls Tryz.prog 89 #[.int .i64 n, .int .i64 lo, .int .i64 hi] w fun e w' => e = .returned (.bool (decide (lo ≤ n ∧ n ≤ hi))) ∧ w = w' := by
  by_cases h1 : lo ≤ n
  · by_cases h2 : n ≤ hi
    · rw [decide_eq_true (And.intro h1 h2)]
      go_enter Tryz.func89, Tryz.ntmps89
      go_wp2
      go_ret
      exact ⟨rfl, rfl⟩
    · rw [decide_eq_false (fun h => h2 h.2)]
      go_enter Tryz.func89, Tryz.ntmps89
      go_wp2
      go_ret
      exact ⟨rfl, rfl⟩
  · rw [decide_eq_false (fun h => h1 h.1)]
    go_enter Tryz.func89, Tryz.ntmps89
    go_wp2
    go_ret
    exact ⟨rfl, rfl⟩

/-- 'append(dst, s...)', s a text. -/
theorem wp_append_text8 {ops : Array Oper} {rest : List Oper} {o : Oper} {a : Act} {Q : Exit → Act → World → Prop} {w : World} (hgd : o.guard = none) (s x : Operand)
    (ho : o.op = .call { callee := .builtin .append, args := #[s, x], argTypes := #[62, 9] }) (base n : Nat) (v : Value) (xs : List Value) (hs : a.eval s = v) (hown : w.ownsRow base 5 1 v n xs)
    (t : ByteArray) (hx : a.eval x = .string t) (hb : n + t.size ≤ 140737488355328) (hbase : base ≤ w.heap.size)
    (h : ∀ v' w', w'.ownsRow base 5 1 v' (n + t.size) (xs ++ (bytesOf t).map (Value.int .u8)) → Below base w w' → wpList Tryz.prog ops Q rest (a.put o.dst v') w') : wpList Tryz.prog ops Q (o :: rest) a w := by
  obtain ⟨i0, hi, hz0, hz1, hz2⟩ := info_parts info5
  refine Lib.wpList_append_own_string (P := Tryz.prog) w hgd s x 62 9 ho base 5 i0 Tryz.underlying62 Tryz.underlying9 hi hz0 hz1 hz2 v n xs hs hown t hx (by unfold maxLen; omega) hb hbase (fun v' w' h1 h2 _ => h v' w' (by rw [← strCells_bytes]; exact h1) ((Below.refl base w).grown h2 hbase (fun k hk => (hown.lt k hk).1)))

theorem put08 {base : Nat} {w : World} {v : Value} {len : Nat} {zs : List Int} {n : Int} {kz : Int} (k : Nat) (e : kz = k) (hown : w.ownsRow base 5 1 v len (zs.map (Value.int .u8))) (hbase : base ≤ w.heap.size)
    (hn : 0 ≤ n ∧ n ≤ 1073741824) (hk : k ≤ 8) (hlen : len ≤ 1000) : Calls Tryz.prog 90 #[v, .int .i64 n, .int .i64 kz] w (PutPost base w (len + k) (zs ++ leB n k)) := by
  subst e
  exact Put04_any base v len zs n k w hown hbase hn.1 (by omega) hk (by omega)

theorem seal08 {base n : Nat} {w : World} {v : Value} {zs : List Int} (h : w.ownsRow base 5 1 v n (zs.map (Value.int .u8))) (hz : ∀ z ∈ zs, 0 ≤ z ∧ z ≤ 255) (hn : n ≤ 1000) : Calls Tryz.prog 56 #[v] w (Gives w.heap.size w (sealOf sumS zs)) := by
  obtain ⟨ao, cap, rfl, hA, _⟩ := fresh_of_owns h hz (by omega)
  exact Seal04_any ao _ cap zs w hA

/-- A field of a variable that was made. -/
theorem made_at (w : World) (cs : Array Value) (T : TypeId) (j : Nat) (v : Value) (h : cs[j]? = some v) : (w.alloc (.cells cs T)).cell? ⟨w.heap.size, j, none⟩ = some v := by
  rw [World.cell?_alloc_new]
  exact h

/-- Behind a variable that was made: an empty list. -/
theorem made_empty (w : World) (cs : Array Value) (T : TypeId) : Hid (((w.alloc (.cells cs T)).alloc (.cells #[] 5)).ownsRow (w.heap.size + 1) 5 1 (.slice (some ⟨w.heap.size + 1, 0, none⟩) 0 0) 0 []) ∧ Hid (Below (w.heap.size + 1) (w.alloc (.cells cs T)) ((w.alloc (.cells cs T)).alloc (.cells #[] 5))) := by
  have h1 := World.ownsRow_made (base := (w.alloc (.cells cs T)).heap.size) (e := 5) (size := 1) (w.alloc (.cells cs T)) #[] 0 (Nat.le_refl _) (by decide) rfl
  have h2 : Below (w.alloc (.cells cs T)).heap.size (w.alloc (.cells cs T)) ((w.alloc (.cells cs T)).alloc (.cells #[] 5)) := (Below.refl _ _).alloc (Nat.le_refl _) _
  rw [World.size_alloc] at h1 h2
  exact ⟨Lib.hid h1, Lib.hid h2⟩

set_option maxHeartbeats 1600000 in
theorem put08_any (h : PHead) (w : World) (hi : h.in64) : Calls Tryz.prog 53 #[h.val] w (Handed w.heap.size w (headOut h) (headErr h)) := by
  obtain ⟨a, b⟩ := h
  obtain ⟨ia, ib⟩ := hi
  unfold PHead.val
  by_cases ha : 0 ≤ a ∧ a ≤ 39
  case neg =>
    have HE : Hid (headErr (⟨a, b⟩ : PHead) = 2 ∧ headOut (⟨a, b⟩ : PHead) = []) := Lib.hid (by
      have e : (⟨a, b⟩ : PHead).sound = false := by unfold PHead.sound; rw [decide_eq_false_iff_not]; intro h; have h1 : 0 ≤ a ∧ a ≤ 39 ∧ 1 ≤ b ∧ b ≤ 1073741824 := h; exact ha (by omega)
      unfold headErr headOut; rw [e]; exact ⟨rfl, rfl⟩)
    have ca := Lib.hid (decide_eq_false ha)
    clear ha
    go_enter Tryz.func53, Tryz.ntmps53
    go_wp2_with (first | (go_at_call 89; refine (in08_any _ _ _ _).mono ?_; rintro e w1 ⟨rfl, rfl⟩; first | rw [ca.out]))
    go_ret2
    exact ⟨.slice none 0 0, by rw [HE.out.1]; rfl, by rw [HE.out.2]; exact Fresh.nil _ _, (Below.refl _ _).alloc (Nat.le_refl _) _⟩
  by_cases hb : 1 ≤ b ∧ b ≤ 1073741824
  case neg =>
    have HE : Hid (headErr (⟨a, b⟩ : PHead) = 2 ∧ headOut (⟨a, b⟩ : PHead) = []) := Lib.hid (by
      have e : (⟨a, b⟩ : PHead).sound = false := by unfold PHead.sound; rw [decide_eq_false_iff_not]; intro h; have h1 : 0 ≤ a ∧ a ≤ 39 ∧ 1 ≤ b ∧ b ≤ 1073741824 := h; exact hb (by omega)
      unfold headErr headOut; rw [e]; exact ⟨rfl, rfl⟩)
    have ca := Lib.hid (decide_eq_true ha)
    have cb := Lib.hid (decide_eq_false hb)
    clear ha hb
    go_enter Tryz.func53, Tryz.ntmps53
    go_wp2_with (first | (go_at_call 89; refine (in08_any _ _ _ _).mono ?_; rintro e w1 ⟨rfl, rfl⟩; first | rw [ca.out] | rw [cb.out]))
    go_ret2
    exact ⟨.slice none 0 0, by rw [HE.out.1]; rfl, by rw [HE.out.2]; exact Fresh.nil _ _, (Below.refl _ _).alloc (Nat.le_refl _) _⟩
  have HE : Hid (headErr (⟨a, b⟩ : PHead) = 0 ∧ headOut (⟨a, b⟩ : PHead) = sealOf sumS (headB (⟨a, b⟩ : PHead))) := Lib.hid (by
    have e : (⟨a, b⟩ : PHead).sound = true := by unfold PHead.sound; rw [decide_eq_true_iff]; show 0 ≤ a ∧ a ≤ 39 ∧ 1 ≤ b ∧ b ≤ 1073741824; omega
    unfold headErr headOut; rw [e]; exact ⟨rfl, rfl⟩)
  have ca := Lib.hid (decide_eq_true ha)
  have Ha : Hid (0 ≤ a ∧ a ≤ 1073741824) := Lib.hid (by omega)
  have cb := Lib.hid (decide_eq_true hb)
  have Hb : Hid (0 ≤ b ∧ b ≤ 1073741824) := Lib.hid (by omega)
  clear ha hb
  obtain ⟨W, hW⟩ : ∃ W, W = w.alloc (.cells #[.int .i64 a, .int .i64 b] 89) := ⟨_, rfl⟩
  have HBW : Hid (Below w.heap.size w W) := Lib.hid (by rw [hW]; exact (Below.refl _ _).alloc (Nat.le_refl _) _)
  have F0a : Hid (W.cell? ⟨w.heap.size, 0, none⟩ = some (.int .i64 a)) := Lib.hid (by rw [hW]; exact made_at _ _ _ _ _ rfl)
  have F0b : Hid (W.cell? ⟨w.heap.size, 1, none⟩ = some (.int .i64 b)) := Lib.hid (by rw [hW]; exact made_at _ _ _ _ _ rfl)
  have HWL : Hid (w.heap.size ≤ W.heap.size) := Lib.hid HBW.out.size
  have HW := Lib.hid hW
  clear hW
  obtain ⟨HM, HN⟩ := made_empty w #[.int .i64 a, .int .i64 b] 89
  go_enter Tryz.func53, Tryz.ntmps53
  go_wp2_with (first
    | (go_at_call 89; refine (in08_any _ _ _ _).mono ?_; rintro e w1 ⟨rfl, rfl⟩; first | rw [ca.out] | rw [cb.out])
    | (go_at_call 56; refine (seal08 O3.out (headB_bytes (⟨a, b⟩ : PHead)) (by decide)).mono ?_; rintro e w4 ⟨v4, rfl, h5, b5⟩; have B4 := Lib.hid (B3.out.trans (b5.mono B3.out.size)); have R4 := Lib.hid (h5.mono (Nat.le_trans HWL.out B3.out.size)); clear h5 b5)
    | (go_at_call 90; refine (put08 4 rfl O2.out (B2.out.size) Hb.out (by decide) (by decide)).mono ?_; rintro e w3 ⟨v3, rfl, h5, b5⟩; have B3 := Lib.hid (B2.out.trans b5); have O3 := Lib.hid h5; have f3a := cell_later B3.out F0a.out; have f3b := cell_later B3.out F0b.out; clear h5 b5)
    | (go_at_call 90; refine (put08 4 rfl O1.out (B1.out.size) Ha.out (by decide) (by decide)).mono ?_; rintro e w2 ⟨v2, rfl, h5, b5⟩; have B2 := Lib.hid (B1.out.trans b5); have O2 := Lib.hid h5; have f2a := cell_later B2.out F0a.out; have f2b := cell_later B2.out F0b.out; clear h5 b5)
    | (at_builtin; refine wp_append_text8 rfl (.tmp 15) _ rfl (w.heap.size + 1) 0 _ [] rfl HM.out _ rfl (by decide) (by simp) ?_; intro v1 w1 hown1 hb1; have hb2 := HN.out.trans hb1; rw [← World.size_alloc w (.cells #[.int .i64 a, .int .i64 b] 89), ← HW.out] at hown1 hb2; have B1 := Lib.hid hb2; have O1 : Hid (w1.ownsRow W.heap.size 5 1 v1 4 (headT.map (Value.int .u8))) := Lib.hid hown1; have f1a := cell_later B1.out F0a.out; have f1b := cell_later B1.out F0b.out; clear hown1 hb1 hb2))
  go_ret2
  exact ⟨_, by rw [HE.out.1]; rfl, by rw [HE.out.2]; exact R4.out, HBW.out.trans (B4.out.mono HWL.out)⟩

set_option maxHeartbeats 1600000 in
theorem enc08_any (h : PSup) (w : World) (hi : h.in64) : Calls Tryz.prog 33 #[h.val] w (Handed w.heap.size w (supOut h) (supErr h)) := by
  obtain ⟨a, b, c, d, e⟩ := h
  obtain ⟨ia, ib, ic, id, ie⟩ := hi
  unfold PSup.val
  by_cases ha : 64 ≤ a ∧ a ≤ 480
  case neg =>
    have HE : Hid (supErr (⟨a, b, c, d, e⟩ : PSup) = 2 ∧ supOut (⟨a, b, c, d, e⟩ : PSup) = []) := Lib.hid (by
      have e : (⟨a, b, c, d, e⟩ : PSup).sound = false := by unfold PSup.sound; rw [decide_eq_false_iff_not]; intro h; have h1 : 64 ≤ a ∧ a ≤ 480 ∧ 1 ≤ b ∧ b ≤ 3 ∧ 0 ≤ c ∧ c ≤ 3 ∧ 0 ≤ d ∧ d ≤ 32 ∧ 0 ≤ e ∧ e ≤ 480 := h; exact ha (by omega)
      unfold supErr supOut; rw [e]; exact ⟨rfl, rfl⟩)
    have ca := Lib.hid (decide_eq_false ha)
    clear ha
    go_enter Tryz.func33, Tryz.ntmps33
    go_wp2_with (first | (go_at_call 89; refine (in08_any _ _ _ _).mono ?_; rintro e w1 ⟨rfl, rfl⟩; first | rw [ca.out]))
    go_ret2
    exact ⟨.slice none 0 0, by rw [HE.out.1]; rfl, by rw [HE.out.2]; exact Fresh.nil _ _, (Below.refl _ _).alloc (Nat.le_refl _) _⟩
  by_cases hb : 1 ≤ b ∧ b ≤ 3
  case neg =>
    have HE : Hid (supErr (⟨a, b, c, d, e⟩ : PSup) = 2 ∧ supOut (⟨a, b, c, d, e⟩ : PSup) = []) := Lib.hid (by
      have e : (⟨a, b, c, d, e⟩ : PSup).sound = false := by unfold PSup.sound; rw [decide_eq_false_iff_not]; intro h; have h1 : 64 ≤ a ∧ a ≤ 480 ∧ 1 ≤ b ∧ b ≤ 3 ∧ 0 ≤ c ∧ c ≤ 3 ∧ 0 ≤ d ∧ d ≤ 32 ∧ 0 ≤ e ∧ e ≤ 480 := h; exact hb (by omega)
      unfold supErr supOut; rw [e]; exact ⟨rfl, rfl⟩)
    have ca := Lib.hid (decide_eq_true ha)
    have cb := Lib.hid (decide_eq_false hb)
    clear ha hb
    go_enter Tryz.func33, Tryz.ntmps33
    go_wp2_with (first | (go_at_call 89; refine (in08_any _ _ _ _).mono ?_; rintro e w1 ⟨rfl, rfl⟩; first | rw [ca.out] | rw [cb.out]))
    go_ret2
    exact ⟨.slice none 0 0, by rw [HE.out.1]; rfl, by rw [HE.out.2]; exact Fresh.nil _ _, (Below.refl _ _).alloc (Nat.le_refl _) _⟩
  by_cases hc : 0 ≤ c ∧ c ≤ 3
  case neg =>
    have HE : Hid (supErr (⟨a, b, c, d, e⟩ : PSup) = 2 ∧ supOut (⟨a, b, c, d, e⟩ : PSup) = []) := Lib.hid (by
      have e : (⟨a, b, c, d, e⟩ : PSup).sound = false := by unfold PSup.sound; rw [decide_eq_false_iff_not]; intro h; have h1 : 64 ≤ a ∧ a ≤ 480 ∧ 1 ≤ b ∧ b ≤ 3 ∧ 0 ≤ c ∧ c ≤ 3 ∧ 0 ≤ d ∧ d ≤ 32 ∧ 0 ≤ e ∧ e ≤ 480 := h; exact hc (by omega)
      unfold supErr supOut; rw [e]; exact ⟨rfl, rfl⟩)
    have ca := Lib.hid (decide_eq_true ha)
    have cb := Lib.hid (decide_eq_true hb)
    have cc := Lib.hid (decide_eq_false hc)
    clear ha hb hc
    go_enter Tryz.func33, Tryz.ntmps33
    go_wp2_with (first | (go_at_call 89; refine (in08_any _ _ _ _).mono ?_; rintro e w1 ⟨rfl, rfl⟩; first | rw [ca.out] | rw [cb.out] | rw [cc.out]))
    go_ret2
    exact ⟨.slice none 0 0, by rw [HE.out.1]; rfl, by rw [HE.out.2]; exact Fresh.nil _ _, (Below.refl _ _).alloc (Nat.le_refl _) _⟩
  by_cases hd : 0 ≤ d ∧ d ≤ 32
  case neg =>
    have HE : Hid (supErr (⟨a, b, c, d, e⟩ : PSup) = 2 ∧ supOut (⟨a, b, c, d, e⟩ : PSup) = []) := Lib.hid (by
      have e : (⟨a, b, c, d, e⟩ : PSup).sound = false := by unfold PSup.sound; rw [decide_eq_false_iff_not]; intro h; have h1 : 64 ≤ a ∧ a ≤ 480 ∧ 1 ≤ b ∧ b ≤ 3 ∧ 0 ≤ c ∧ c ≤ 3 ∧ 0 ≤ d ∧ d ≤ 32 ∧ 0 ≤ e ∧ e ≤ 480 := h; exact hd (by omega)
      unfold supErr supOut; rw [e]; exact ⟨rfl, rfl⟩)
    have ca := Lib.hid (decide_eq_true ha)
    have cb := Lib.hid (decide_eq_true hb)
    have cc := Lib.hid (decide_eq_true hc)
    have cd := Lib.hid (decide_eq_false hd)
    clear ha hb hc hd
    go_enter Tryz.func33, Tryz.ntmps33
    go_wp2_with (first | (go_at_call 89; refine (in08_any _ _ _ _).mono ?_; rintro e w1 ⟨rfl, rfl⟩; first | rw [ca.out] | rw [cb.out] | rw [cc.out] | rw [cd.out]))
    go_ret2
    exact ⟨.slice none 0 0, by rw [HE.out.1]; rfl, by rw [HE.out.2]; exact Fresh.nil _ _, (Below.refl _ _).alloc (Nat.le_refl _) _⟩
  by_cases he : 0 ≤ e ∧ e ≤ 480
  case neg =>
    have HE : Hid (supErr (⟨a, b, c, d, e⟩ : PSup) = 2 ∧ supOut (⟨a, b, c, d, e⟩ : PSup) = []) := Lib.hid (by
      have e : (⟨a, b, c, d, e⟩ : PSup).sound = false := by unfold PSup.sound; rw [decide_eq_false_iff_not]; intro h; have h1 : 64 ≤ a ∧ a ≤ 480 ∧ 1 ≤ b ∧ b ≤ 3 ∧ 0 ≤ c ∧ c ≤ 3 ∧ 0 ≤ d ∧ d ≤ 32 ∧ 0 ≤ e ∧ e ≤ 480 := h; exact he (by omega)
      unfold supErr supOut; rw [e]; exact ⟨rfl, rfl⟩)
    have ca := Lib.hid (decide_eq_true ha)
    have cb := Lib.hid (decide_eq_true hb)
    have cc := Lib.hid (decide_eq_true hc)
    have cd := Lib.hid (decide_eq_true hd)
    have ce := Lib.hid (decide_eq_false he)
    clear ha hb hc hd he
    go_enter Tryz.func33, Tryz.ntmps33
    go_wp2_with (first | (go_at_call 89; refine (in08_any _ _ _ _).mono ?_; rintro e w1 ⟨rfl, rfl⟩; first | rw [ca.out] | rw [cb.out] | rw [cc.out] | rw [cd.out] | rw [ce.out]))
    go_ret2
    exact ⟨.slice none 0 0, by rw [HE.out.1]; rfl, by rw [HE.out.2]; exact Fresh.nil _ _, (Below.refl _ _).alloc (Nat.le_refl _) _⟩
  have HE : Hid (supErr (⟨a, b, c, d, e⟩ : PSup) = 0 ∧ supOut (⟨a, b, c, d, e⟩ : PSup) = sealOf sumS (supB (⟨a, b, c, d, e⟩ : PSup))) := Lib.hid (by
    have e : (⟨a, b, c, d, e⟩ : PSup).sound = true := by unfold PSup.sound; rw [decide_eq_true_iff]; show 64 ≤ a ∧ a ≤ 480 ∧ 1 ≤ b ∧ b ≤ 3 ∧ 0 ≤ c ∧ c ≤ 3 ∧ 0 ≤ d ∧ d ≤ 32 ∧ 0 ≤ e ∧ e ≤ 480; omega
    unfold supErr supOut; rw [e]; exact ⟨rfl, rfl⟩)
  have ca := Lib.hid (decide_eq_true ha)
  have Ha : Hid (0 ≤ a ∧ a ≤ 1073741824) := Lib.hid (by omega)
  have cb := Lib.hid (decide_eq_true hb)
  have Hb : Hid (0 ≤ b ∧ b ≤ 1073741824) := Lib.hid (by omega)
  have cc := Lib.hid (decide_eq_true hc)
  have Hc : Hid (0 ≤ c ∧ c ≤ 1073741824) := Lib.hid (by omega)
  have cd := Lib.hid (decide_eq_true hd)
  have Hd : Hid (0 ≤ d ∧ d ≤ 1073741824) := Lib.hid (by omega)
  have ce := Lib.hid (decide_eq_true he)
  have He : Hid (0 ≤ e ∧ e ≤ 1073741824) := Lib.hid (by omega)
  clear ha hb hc hd he
  obtain ⟨W, hW⟩ : ∃ W, W = w.alloc (.cells #[.int .i64 a, .int .i64 b, .int .i64 c, .int .i64 d, .int .i64 e] 32) := ⟨_, rfl⟩
  have HBW : Hid (Below w.heap.size w W) := Lib.hid (by rw [hW]; exact (Below.refl _ _).alloc (Nat.le_refl _) _)
  have F0a : Hid (W.cell? ⟨w.heap.size, 0, none⟩ = some (.int .i64 a)) := Lib.hid (by rw [hW]; exact made_at _ _ _ _ _ rfl)
  have F0b : Hid (W.cell? ⟨w.heap.size, 1, none⟩ = some (.int .i64 b)) := Lib.hid (by rw [hW]; exact made_at _ _ _ _ _ rfl)
  have F0c : Hid (W.cell? ⟨w.heap.size, 2, none⟩ = some (.int .i64 c)) := Lib.hid (by rw [hW]; exact made_at _ _ _ _ _ rfl)
  have F0d : Hid (W.cell? ⟨w.heap.size, 3, none⟩ = some (.int .i64 d)) := Lib.hid (by rw [hW]; exact made_at _ _ _ _ _ rfl)
  have F0e : Hid (W.cell? ⟨w.heap.size, 4, none⟩ = some (.int .i64 e)) := Lib.hid (by rw [hW]; exact made_at _ _ _ _ _ rfl)
  have HWL : Hid (w.heap.size ≤ W.heap.size) := Lib.hid HBW.out.size
  have HW := Lib.hid hW
  clear hW
  obtain ⟨HM, HN⟩ := made_empty w #[.int .i64 a, .int .i64 b, .int .i64 c, .int .i64 d, .int .i64 e] 32
  go_enter Tryz.func33, Tryz.ntmps33
  go_wp2_with (first
    | (go_at_call 89; refine (in08_any _ _ _ _).mono ?_; rintro e w1 ⟨rfl, rfl⟩; first | rw [ca.out] | rw [cb.out] | rw [cc.out] | rw [cd.out] | rw [ce.out])
    | (go_at_call 56; refine (seal08 O6.out (supB_bytes (⟨a, b, c, d, e⟩ : PSup)) (by decide)).mono ?_; rintro e w7 ⟨v7, rfl, h5, b5⟩; have B7 := Lib.hid (B6.out.trans (b5.mono B6.out.size)); have R7 := Lib.hid (h5.mono (Nat.le_trans HWL.out B6.out.size)); clear h5 b5)
    | (go_at_call 90; refine (put08 2 rfl O5.out (B5.out.size) He.out (by decide) (by decide)).mono ?_; rintro e w6 ⟨v6, rfl, h5, b5⟩; have B6 := Lib.hid (B5.out.trans b5); have O6 := Lib.hid h5; have f6a := cell_later B6.out F0a.out; have f6b := cell_later B6.out F0b.out; have f6c := cell_later B6.out F0c.out; have f6d := cell_later B6.out F0d.out; have f6e := cell_later B6.out F0e.out; clear h5 b5)
    | (go_at_call 90; refine (put08 2 rfl O4.out (B4.out.size) Hd.out (by decide) (by decide)).mono ?_; rintro e w5 ⟨v5, rfl, h5, b5⟩; have B5 := Lib.hid (B4.out.trans b5); have O5 := Lib.hid h5; have f5a := cell_later B5.out F0a.out; have f5b := cell_later B5.out F0b.out; have f5c := cell_later B5.out F0c.out; have f5d := cell_later B5.out F0d.out; have f5e := cell_later B5.out F0e.out; clear h5 b5)
    | (go_at_call 90; refine (put08 1 rfl O3.out (B3.out.size) Hc.out (by decide) (by decide)).mono ?_; rintro e w4 ⟨v4, rfl, h5, b5⟩; have B4 := Lib.hid (B3.out.trans b5); have O4 := Lib.hid h5; have f4a := cell_later B4.out F0a.out; have f4b := cell_later B4.out F0b.out; have f4c := cell_later B4.out F0c.out; have f4d := cell_later B4.out F0d.out; have f4e := cell_later B4.out F0e.out; clear h5 b5)
    | (go_at_call 90; refine (put08 1 rfl O2.out (B2.out.size) Hb.out (by decide) (by decide)).mono ?_; rintro e w3 ⟨v3, rfl, h5, b5⟩; have B3 := Lib.hid (B2.out.trans b5); have O3 := Lib.hid h5; have f3a := cell_later B3.out F0a.out; have f3b := cell_later B3.out F0b.out; have f3c := cell_later B3.out F0c.out; have f3d := cell_later B3.out F0d.out; have f3e := cell_later B3.out F0e.out; clear h5 b5)
    | (go_at_call 90; refine (put08 2 rfl O1.out (B1.out.size) Ha.out (by decide) (by decide)).mono ?_; rintro e w2 ⟨v2, rfl, h5, b5⟩; have B2 := Lib.hid (B1.out.trans b5); have O2 := Lib.hid h5; have f2a := cell_later B2.out F0a.out; have f2b := cell_later B2.out F0b.out; have f2c := cell_later B2.out F0c.out; have f2d := cell_later B2.out F0d.out; have f2e := cell_later B2.out F0e.out; clear h5 b5)
    | (at_builtin; refine wp_append_text8 rfl (.tmp 33) _ rfl (w.heap.size + 1) 0 _ [] rfl HM.out _ rfl (by decide) (by simp) ?_; intro v1 w1 hown1 hb1; have hb2 := HN.out.trans hb1; rw [← World.size_alloc w (.cells #[.int .i64 a, .int .i64 b, .int .i64 c, .int .i64 d, .int .i64 e] 32), ← HW.out] at hown1 hb2; have B1 := Lib.hid hb2; have O1 : Hid (w1.ownsRow W.heap.size 5 1 v1 4 (dryd.map (Value.int .u8))) := Lib.hid hown1; have f1a := cell_later B1.out F0a.out; have f1b := cell_later B1.out F0b.out; have f1c := cell_later B1.out F0c.out; have f1d := cell_later B1.out F0d.out; have f1e := cell_later B1.out F0e.out; clear hown1 hb1 hb2))
  go_ret2
  exact ⟨_, by rw [HE.out.1]; rfl, by rw [HE.out.2]; exact R7.out, HBW.out.trans (B7.out.mono HWL.out)⟩

end Go.Proofs.YtmcblhgpcgnaoaaGreatDoor


namespace Go.Proofs.YtmcblhgpcgnaoaaGreatDoor
open Go.RowKit
set_option linter.unusedVariables false
set_option linter.unusedSimpArgs false

/-- A call that hands back a block of 64 bytes. -/
def HandsB (w : World) (L : List Int) (e : Ending) (w' : World) : Prop :=
  ∃ g o c, e = .returned (.tuple #[.slice (some ⟨g, o, none⟩) 64 c, .int .i64 0]) ∧ Arg w' (some ⟨g, o, none⟩) 64 c L ∧ w.heap.size ≤ g ∧ Below w.heap.size w w'
theorem handsB {w : World} {L : List Int} {e : Ending} {w' : World} (h : Handed w.heap.size w L 0 e w') (hl : L.length = 64) : HandsB w L e w' := by
  obtain ⟨v, rfl, hf, hb⟩ := h
  obtain ⟨g, o, c, rfl, hA, hg⟩ := fresh_slice hf (fun e => by rw [e] at hl; cases hl)
  rw [hl] at hA ⊢
  exact ⟨g, o, c, rfl, hA, hg, hb⟩
theorem sup_hands (s : PSup) (w : World) (hi : s.in64) (hs : s.sound = true) : Calls Tryz.prog 33 #[s.val] w (HandsB w (supBlock s)) := by
  have h := enc08_any s w hi
  unfold supOut supErr at h
  rw [if_pos hs, if_pos hs] at h
  exact h.mono (fun e w' h => handsB h (supBlock_length s))
theorem head_hands (s : PHead) (w : World) (hi : s.in64) (hs : s.sound = true) : Calls Tryz.prog 53 #[s.val] w (HandsB w (headBlock s)) := by
  have h := put08_any s w hi
  unfold headOut headErr at h
  rw [if_pos hs, if_pos hs] at h
  exact h.mono (fun e w' h => handsB h (headBlock_length s))
def cE : Value := .complex .f64 (floatOfInt .f64 0) (floatOfInt .f64 59)
def HandsU (w3 : World) (e : Ending) (w' : World) : Prop := ∃ g o c, e = .returned (.tuple #[.slice (some ⟨g, o, none⟩) 60 c, .int .i64 0]) ∧ Arg w' (some ⟨g, o, none⟩) 60 c upE ∧ w3.heap.size ≤ g ∧ Below w3.heap.size w3 w'
theorem mark_hands {w3 W : World} {q g : Nat} (hb : Below w3.heap.size w3 W) (hA : Arg W (some ⟨q, 0, none⟩) 60 60 (List.replicate 60 0)) (hc : W.cell? ⟨g, 0, none⟩ = some cE) :
    Calls Tryz.prog 54 #[.slice (some ⟨q, 0, none⟩) 60 60, .bool true, .slice (some ⟨g, 0, none⟩) 1 1] W (HandsU w3) := by
  refine (Mark05_one (c2 := 1) (a := 0) (b := 59) hA hc (fi_ofInt _ (by decide)) (fi_ofInt _ (by decide)) (by decide) (by decide)).mono ?_
  rintro e w' ⟨v, rfl, hf, hb2⟩
  obtain ⟨g2, o2, c2, rfl, hA2, hg2⟩ := fresh_slice hf (fun e => by have := upE_length; unfold upE at this; rw [e] at this; cases this)
  rw [markP_length] at hA2 ⊢
  exact ⟨g2, o2, c2, rfl, hA2, Nat.le_trans hb.size hg2, hb.trans (hb2.mono hb.size)⟩
theorem mark_first (w3 : World) : Calls Tryz.prog 54 #[.slice (some ⟨w3.heap.size, 0, none⟩) 60 60, .bool true, .slice (some ⟨w3.heap.size + 1, 0, none⟩) 1 1] ((w3.alloc (.cells (madeCells #[.int .u8 0] 60) 5)).alloc (.cells #[cE] 93)).drew (HandsU w3) := by
  have b1 : Below w3.heap.size w3 (w3.alloc (.cells (madeCells #[.int .u8 0] 60) 5)) := (Below.refl _ _).alloc (Nat.le_refl _) _
  have hc := one_cell_new (w3.alloc (.cells (madeCells #[.int .u8 0] 60) 5)) cE 93
  rw [World.size_alloc] at hc
  exact mark_hands (b1.alloc b1.size _).drew (((made_arg w3 60 (by decide)).later ((Below.refl _ _).alloc (Nat.le_refl _) _)).later (Below.refl _ _).drew) hc
theorem mark_second (w3 : World) : Calls Tryz.prog 54 #[.slice (some ⟨w3.heap.size + 1, 0, none⟩) 60 60, .bool true, .slice (some ⟨w3.heap.size, 0, none⟩) 1 1] ((w3.alloc (.cells #[cE] 93)).alloc (.cells (madeCells #[.int .u8 0] 60) 5)).drew (HandsU w3) := by
  have b1 : Below w3.heap.size w3 (w3.alloc (.cells #[cE] 93)) := (Below.refl _ _).alloc (Nat.le_refl _) _
  have hA := made_arg (w3.alloc (.cells #[cE] 93)) 60 (by decide)
  rw [World.size_alloc] at hA
  have hc := one_cell_new w3 cE 93
  exact mark_hands (b1.alloc b1.size _).drew (hA.later (Below.refl _ _).drew) (cell_later ((Below.refl _ _).alloc (Nat.le_refl _) _).drew hc)
/-- A node's bytes, handed back. -/
def HandsN (w : World) (L : List Int) (e : Ending) (w' : World) : Prop := ∃ g o c, e = .returned (.tuple #[.slice (some ⟨g, o, none⟩) 32 c, .int .i64 0]) ∧ Arg w' (some ⟨g, o, none⟩) 32 c L ∧ w.heap.size ≤ g ∧ Below w.heap.size w w'
theorem node_hands (x : PNode) (w : World) (hs : x.sound = true ∧ x.small ∧ x.x.length ≤ 3) (hx : x.x = []) : Calls Tryz.prog 57 #[x.val (.slice none 0 0)] w (HandsN w (node32 x)) := by
  have h := renc_any x (ao := none) (m := 0) (cap := 0) w hs.2.1 (by rw [hx]; exact XIs.nil w)
  unfold nodeOut nodeErr at h
  rw [if_pos hs.1, if_pos hs.1] at h
  refine h.mono ?_
  rintro e w' ⟨v, rfl, hf, hb⟩
  have hl := node32_len hs.2.2
  obtain ⟨g, o, c, rfl, hA, hg⟩ := fresh_slice hf (fun e => by rw [e] at hl; cases hl)
  rw [hl] at hA ⊢
  exact ⟨g, o, c, rfl, hA, hg, hb⟩
theorem seal_hands {ao : Option Addr} {c : Nat} (w : World) (hA : Arg w ao 60 c upE) : Calls Tryz.prog 56 #[.slice ao 60 c] w fun e w' => ∃ g o c, e = .returned (.slice (some ⟨g, o, none⟩) 64 c) ∧ Arg w' (some ⟨g, o, none⟩) 64 c (sealOf sumS upE) ∧ w.heap.size ≤ g ∧ Below w.heap.size w w' := by
  refine (Seal04_any ao 60 c upE w hA).mono ?_
  rintro e w' ⟨v, rfl, hf, hb⟩
  obtain ⟨g, o, c, rfl, hA, hg⟩ := fresh_slice hf (fun e => by have := sealAny_length sumS upE; rw [e] at this; cases this)
  rw [sealAny_length] at hA ⊢
  exact ⟨g, o, c, rfl, hA, hg, hb⟩
theorem BRow.lt {base g : Nat} {w0 w : World} {L : List (List Int)} (h : BRow base w0 g L w) (h0 : 0 < L.length) : g < w.heap.size := by
  obtain ⟨v, hv⟩ := h.cell h0
  exact World.block_lt_of_cell? _ _ hv

def StE (w : World) (g g6 o6 c6 g7 o7 c7 : Nat) (f : Int) (L : List (List Int)) (wr : World) : Prop :=
  BRow w.heap.size w g L wr ∧ Arg wr (some ⟨g6, o6, none⟩) 32 c6 (node32 (rootN f)) ∧ Arg wr (some ⟨g7, o7, none⟩) 32 c7 (node32 noNode) ∧ g6 ≠ g ∧ g7 ≠ g
theorem StE.set {w wr w' : World} {g g6 o6 c6 g7 o7 c7 k db off cap : Nat} {f : Int} {L : List (List Int)} {zs : List Int} (h : StE w g g6 o6 c6 g7 o7 c7 f L wr) (hb : Below wr.heap.size wr w') (hk : k < L.length) (hd : wr.heap.size ≤ db) (hA : Arg w' (some ⟨db, off, none⟩) 64 cap zs) :
    StE w g g6 o6 c6 g7 o7 c7 f (L.set k zs) (w'.setCell ⟨g, k, none⟩ (.slice (some ⟨db, off, none⟩) 64 cap)) := by
  obtain ⟨h1, h2, h3, h4, h5⟩ := h
  have hlt := h1.lt (by omega)
  exact ⟨(h1.later hb (fun e => by rw [e] at hk; cases hk)).set hk (by omega) hA, arg_setCell (h2.later hb) (fun e => h4 e.symm), arg_setCell (h3.later hb) (fun e => h5 e.symm), h4, h5⟩
/-- Two halves, one behind the other. -/
theorem two_halves {w : World} {base n : Nat} {v : Value} {a b : List Int} (h : w.ownsRow base 5 1 v n (([] ++ a.map (Value.int .u8)) ++ b.map (Value.int .u8))) (hn : n = 64) (ha : a.length = 32) (hb : b.length = 32) (hza : Byt a) (hzb : Byt b) :
    ∃ g o c, v = .slice (some ⟨g, o, none⟩) 64 c ∧ Arg w (some ⟨g, o, none⟩) 64 c (a ++ b) ∧ base ≤ g := by
  subst hn
  rw [List.nil_append, ← List.map_append] at h
  have hl : (a ++ b).length = 64 := by rw [List.length_append, ha, hb]
  have hf := fresh_of_owns h (hza.append hzb) (by decide)
  obtain ⟨g, o, c, rfl, hA, hg⟩ := fresh_slice hf (fun e => by rw [e] at hl; cases hl)
  rw [hl] at hA ⊢
  exact ⟨g, o, c, rfl, hA, hg⟩
theorem mark_both (w3 : World) (q g : Nat) (W : World) (h : (q = w3.heap.size ∧ g = w3.heap.size + 1 ∧ W = ((w3.alloc (.cells (madeCells #[.int .u8 0] 60) 5)).alloc (.cells #[.complex .f64 (floatOfInt .f64 0) (floatOfInt .f64 59)] 93)).drew) ∨ (q = w3.heap.size + 1 ∧ g = w3.heap.size ∧ W = ((w3.alloc (.cells #[.complex .f64 (floatOfInt .f64 0) (floatOfInt .f64 59)] 93)).alloc (.cells (madeCells #[.int .u8 0] 60) 5)).drew)) :
    Calls Tryz.prog 54 #[.slice (some ⟨q, 0, none⟩) 60 60, .bool true, .slice (some ⟨g, 0, none⟩) 1 1] W (HandsU w3) := by
  rcases h with ⟨rfl, rfl, rfl⟩ | ⟨rfl, rfl, rfl⟩
  · exact mark_first w3
  · exact mark_second w3

set_option maxRecDepth 100000 in
set_option maxHeartbeats 1600000 in
theorem REmpty17_any {n : Nat} {f : Int} (w : World) (h0 : 64 ≤ n) (h1 : n ≤ 480) (hf : 1 ≤ f ∧ f ≤ 2) :
    Calls Tryz.prog 15 #[.int .i64 n, .int .i64 f] w fun e w' => ∃ ao cap, e = .returned (.slice ao n cap) ∧ RowsIn w' ao n cap (emptyP n f) ∧ Below w.heap.size w w' := by
  have hmk := fun W => run_make_bytes W 64 (by decide)
  rw [show ((64 : Nat) : Int) = 64 from rfl] at hmk
  have HMK := Lib.hid hmk
  clear hmk
  go_enter Tryz.func15, Tryz.ntmps15
  go_wp2_with fail
  have HJ0 : Hid (BOwn w.heap.size w.heap.size (w.alloc (.cells #[] 62)) (.slice (some ⟨w.heap.size, 0, none⟩) 0 0) (List.replicate 0 z64) ∧ Below w.heap.size w (w.alloc (.cells #[] 62))) := Lib.hid ⟨⟨[], World.ownsRow_made (base := w.heap.size) (e := 62) (size := 1) w #[] 0 (Nat.le_refl _) (by decide) rfl, fun j zs hj => by simp at hj⟩, (Below.refl _ _).alloc (Nat.le_refl _) _⟩
  go_loopw [5, 6] (fun vv iv wr => ∃ i : Nat, i ≤ n ∧ iv = .int .i64 (i : Int) ∧ Hid (BOwn w.heap.size w.heap.size wr vv (List.replicate i z64) ∧ Below w.heap.size w wr)) (fun _ iv _ => n - (intOf iv).toNat)
  case atStart => exact ⟨0, Nat.zero_le _, rfl, HJ0⟩
  case round =>
    obtain ⟨i, hi, rfl, HJ⟩ := hrel
    clear HJ0
    by_cases hlt : i < n
    · have i2 : (i : Int) < n := by omega
      have hil : (List.replicate i z64).length = i := List.length_replicate ..
      obtain ⟨xs, ho, hxs⟩ := HJ.out.1
      rw [hil] at ho
      obtain ⟨la, lc, rfl⟩ := owns_shape_r ho
      have HO := Lib.hid (And.intro ho hxs)
      have HW := Lib.hid HJ.out.2
      have HM : Hid (Arg (wr.alloc (.cells (madeCells #[.int .u8 0] 64) 5)) (some ⟨wr.heap.size, 0, none⟩) 64 64 z64) := Lib.hid (made_arg wr 64 (by decide))
      have HB4 : Hid (Below wr.heap.size wr (wr.alloc (.cells (madeCells #[.int .u8 0] 64) 5))) := Lib.hid ((Below.refl _ _).alloc (Nat.le_refl _) _)
      clear HJ ho hxs
      obtain ⟨q, hq⟩ : ∃ q, wr.heap.size = q := ⟨_, rfl⟩
      have hmk2 := HMK.out wr
      obtain ⟨w4, hw4⟩ : ∃ w4, wr.alloc (.cells (madeCells #[.int .u8 0] 64) 5) = w4 := ⟨_, rfl⟩
      rw [hw4, hq] at hmk2
      rw [hw4] at HM HB4
      rw [hq] at HM
      have HQ := Lib.hid hq
      clear hw4 hq
      go_wp2_with (at_builtin; refine wp_append_at elemBs rfl (.tmp 20) (.tmp 22) rfl w.heap.size i (.slice la i lc) xs rfl ?hown ⟨w4.heap.size, 0, none⟩ 1 1 [.slice (some ⟨q, 0, none⟩) 64 64] rfl ?hm rfl ?hx ?hone ?hbb ?hbase ?hkk; (case hown => exact owns_later_r HO.out.1 (HB4.out.alloc HB4.out.size _)); (case hm => decide); (case hx => exact news_r w4 [.slice (some ⟨q, 0, none⟩) 64 64] _); (case hone => (intro u hu; simp only [List.mem_cons, List.mem_nil_iff, or_false] at hu; rcases hu with rfl; rfl)); (case hbb => omega); (case hbase => (have h1 := HW.out.size; have h2 := HB4.out.size; simp; omega)); intro v8 w8 hown8 hg8 hb8 hv8; have HO8 := Lib.hid (And.intro hown8 (And.intro hg8 hv8)); have HB8 := Lib.hid hb8; clear hown8 hg8 hb8 hv8)
      have hbo := BOwn.snoc (bs := List.replicate i z64) (by rw [hil]; exact HO.out.1) HO.out.2 HB4.out (lo := w.heap.size) ⟨by have h1 := HW.out.size; have h2 := HQ.out; omega, arg_lt HM.out⟩ (fun e => by have h1 := (HO.out.1.lt _ e).2; have h2 := HQ.out; omega) HM.out (by rw [hil]; exact HO8.out.1) HO8.out.2.1 HO8.out.2.2
      rw [← List.replicate_succ'] at hbo
      have b4 := HW.out.trans (HB4.out.mono HW.out.size)
      refine ⟨⟨i + 1, by omega, by go_num, Lib.hid ⟨hbo, (b4.alloc b4.size _).trans HB8.out⟩⟩, by simp [intOf]; omega⟩
    · have hit : i = n := by omega
      subst hit
      have hrl : (List.replicate i z64).length = i := List.length_replicate ..
      obtain ⟨g, cap, hv, hcap, hr⟩ := brow_of_own HJ.out.1 (by rw [hrl]; omega) HJ.out.2
      rw [hrl] at hv hcap
      subst hv
      have HR := Lib.hid hr
      clear HJ hr
      have HL : Hid (List.replicate i z64 ≠ [] ∧ 0 < (List.replicate i z64).length) := Lib.hid ⟨fun e => by rw [e] at hrl; simp at hrl; omega, by omega⟩
      have HE : Hid (∀ W, Calls Tryz.prog 33 #[.agg #[.int .i64 i, .int .i64 f, .int .i64 0, .int .i64 0, .int .i64 0]] W (HandsB W (supBlock ⟨i, f, 0, 0, 0⟩))) := Lib.hid (fun W => sup_hands ⟨i, f, 0, 0, 0⟩ W (by unfold PSup.in64 i64w; dsimp only; omega) (sup_emptyP h0 h1 hf).1)
      have HP : Hid (∀ W, Calls Tryz.prog 53 #[.agg #[.int .i64 0, .int .i64 1]] W (HandsB W (headBlock ⟨0, 1⟩))) := Lib.hid (fun W => head_hands ⟨0, 1⟩ W (by unfold PHead.in64 i64w; dsimp only; omega) (by decide))
      obtain ⟨L0, hL0⟩ : ∃ L0, List.replicate i z64 = L0 := ⟨_, rfl⟩
      rw [hL0] at HR HL hrl
      have HLI := Lib.hid hrl
      clear hrl
      go_wp2_with (first
        | (go_at_call 33; refine (HE.out _).mono ?_; rintro e w1 ⟨g1, o1, c1, rfl, hA1, hg1, hb1⟩
           have r1 := HR.out.later hb1 HL.out.1
           obtain ⟨u0, k0⟩ := r1.cell HL.out.2
           have z0 := r1.fz 0
           have HR1 := Lib.hid (r1.set (k := 0) HL.out.2 (by have := HR.out.lt HL.out.2; omega) hA1)
           clear r1 hA1 hg1 hb1 HE)
        | (go_at_call 53; refine (HP.out _).mono ?_; rintro e w2 ⟨g2, o2, c2, rfl, hA2, hg2, hb2⟩
           have r2 := HR1.out.later hb2 (by rw [ne_eq, ← List.length_eq_zero_iff, List.length_set]; have := HLI.out; omega)
           obtain ⟨u1, k1⟩ := r2.cell (k := 1) (by rw [List.length_set]; have := HLI.out; omega)
           have z1 := r2.fz 1
           have HR2 := Lib.hid (r2.set (k := 1) (by rw [List.length_set]; have := HLI.out; omega) (by have := HR1.out.lt (by rw [List.length_set]; exact HL.out.2); omega) hA2)
           clear r2 hA2 hg2 hb2 HP HR1 z0 k0))
      clear HR
      obtain ⟨L1, hL1⟩ : ∃ L1, (L0.set 0 (supBlock ⟨i, f, 0, 0, 0⟩)).set 1 (headBlock ⟨0, 1⟩) = L1 := ⟨_, rfl⟩
      rw [hL1] at HR2
      have HL1 : Hid (L1.length = i) := Lib.hid (by rw [← hL1, List.length_set, List.length_set]; exact HLI.out)
      have hmk6 := fun W => run_make_bytes W 60 (by decide)
      rw [show ((60 : Nat) : Int) = 60 from rfl] at hmk6
      obtain ⟨w3, hw3⟩ : ∃ w3, w2.setCell ⟨g, 1, none⟩ (.slice (some ⟨g2, o2, none⟩) 64 c2) = w3 := ⟨_, rfl⟩
      rw [hw3] at HR2
      try rw [hw3]
      have cR : ∀ W, Calls Tryz.prog 55 #[.int .i64 0, .int .i64 59] W fun e w' => e = .returned (.complex .f64 (floatOfInt .f64 0) (floatOfInt .f64 59)) ∧ W = w' := fun W => Run02_any 0 59 W (by decide)
      clear k1 z1 hw3
      have HM := Lib.hid (mark_both w3)
      go_region_law (first
        | (go_simp; go_at_call 55; refine (cR _).mono ?_; rintro e w' ⟨rfl, rfl⟩)
        | (go_simp; go_at_call 54; refine (HM.out _ _ _ (by first | exact Or.inl ⟨rfl, rfl, rfl⟩ | exact Or.inr ⟨rfl, rfl, rfl⟩)).mono ?_; rintro e w4 ⟨g4, o4, c4, rfl, hA4, hg4, hb4⟩; have HA4 := Lib.hid (And.intro hA4 (And.intro hg4 hb4)); clear hA4 hg4 hb4))
      all_goals
        have HSE := Lib.hid (seal_hands w4 HA4.out.1)
        have HNR : Hid (∀ W, Calls Tryz.prog 57 #[.agg #[.int .i64 2, .int .i64 f, .int .i64 1, .int .i64 0, .int .i64 0, .int .i64 0, .int .i64 0, .int .i64 0, .int .i64 0, .int .i64 0, .slice none 0 0, .int .i64 0]] W (HandsN W (node32 (rootN f)))) := Lib.hid (fun W => node_hands (rootN f) W (root_ok hf) rfl)
        have HNN : Hid (∀ W, Calls Tryz.prog 57 #[.agg #[.int .i64 0, .int .i64 0, .int .i64 0, .int .i64 0, .int .i64 0, .int .i64 0, .int .i64 0, .int .i64 0, .int .i64 0, .int .i64 0, .slice none 0 0, .int .i64 0]] W (HandsN W (node32 noNode))) := Lib.hid (fun W => node_hands noNode W noNode_ok rfl)
        have HR4 := Lib.hid (HR2.out.later HA4.out.2.2 (by rw [ne_eq, ← List.length_eq_zero_iff]; have := HL1.out; omega))
        clear HM HR2 hmk6 cR
        go_wp2_with (first
          | (go_at_call 56; refine HSE.out.mono ?_; rintro e w5 ⟨g5, o5, c5, rfl, hA5, hg5, hb5⟩
             have r5 := HR4.out.later hb5 (by rw [ne_eq, ← List.length_eq_zero_iff]; have := HL1.out; omega)
             obtain ⟨u2, k2⟩ := r5.cell (k := 2) (by have := HL1.out; omega)
             have z2 := r5.fz 2
             have HR5 := Lib.hid (r5.set (k := 2) (by have := HL1.out; omega) (by have := HR4.out.lt (by have := HL1.out; omega); omega) hA5)
             clear r5 hA5 hg5 hb5 HSE HR4 HA4)
          | (go_at_call 57; refine (HNR.out _).mono ?_; rintro e w6 ⟨g6, o6, c6, rfl, hA6, hg6, hb6⟩; have HA6 := Lib.hid (And.intro hA6 (And.intro hg6 hb6)); clear hA6 hg6 hb6 HNR)
          | (go_at_call 57; refine (HNN.out _).mono ?_; rintro e w7 ⟨g7, o7, c7, rfl, hA7, hg7, hb7⟩; have HA7 := Lib.hid (And.intro hA7 (And.intro hg7 hb7)); clear hA7 hg7 hb7 HNN))
      all_goals
        obtain ⟨L2, hL2⟩ : ∃ L2, L1.set 2 (sealOf sumS upE) = L2 := ⟨_, rfl⟩
        rw [hL2] at HR5
        have HL2 : Hid (L2.length = i) := Lib.hid (by rw [← hL2, List.length_set]; exact HL1.out)
        have HEQ : Hid (L2 = rowsE i f) := Lib.hid (by rw [← hL2, ← hL1, ← hL0]; rfl)
        have hst : StE w g g6 o6 c6 g7 o7 c7 f (setsN L2 0) w7 := by
          have hne : L2 ≠ [] := by rw [ne_eq, ← List.length_eq_zero_iff]; have := HL2.out; omega
          have hlt := HR5.out.lt (by have := HL2.out; omega)
          have h6 := HA6.out.2.1
          have h7 := HA7.out.2.1
          have s6 := HA6.out.2.2.size
          exact ⟨(HR5.out.later HA6.out.2.2 hne).later HA7.out.2.2 hne, HA6.out.1.later HA7.out.2.2, HA7.out.1, by omega, by omega⟩
        have HST := Lib.hid hst
        clear HR5 HA6 HA7 hst k2 z2
        go_loopw [13] (fun kv wk => ∃ m : Nat, m ≤ 16 ∧ kv = .int .i64 ((3 : Int) + (m : Int)) ∧ Hid (StE w g g6 o6 c6 g7 o7 c7 f (setsN L2 m) wk)) (fun kv _ => 19 - (intOf kv).toNat)
        case atStart => exact ⟨0, by decide, rfl, HST⟩
        case round =>
          obtain ⟨m, hm, rfl, HS⟩ := hrel
          clear HST
          by_cases hml : m < 16
          · have m1 : (3 : Int) + (m : Int) < 19 := by omega
            have m0 : (0 : Int) ≤ (3 : Int) + (m : Int) := by omega
            have mi : (3 : Int) + (m : Int) < (i : Int) := by omega
            have HOa : Hid ((wr.alloc (.cells #[] 5)).ownsRow wr.heap.size 5 1 (.slice (some ⟨wr.heap.size, 0, none⟩) 0 0) 0 []) := Lib.hid (World.ownsRow_made (base := wr.heap.size) (e := 5) (size := 1) wr #[] 0 (Nat.le_refl _) (by decide) rfl)
            have HBa : Hid (Below wr.heap.size wr (wr.alloc (.cells #[] 5))) := Lib.hid ((Below.refl _ _).alloc (Nat.le_refl _) _)
            have HAa := Lib.hid ((HS.out.2.2.1.later HBa.out).1)
            have HAs := Lib.hid HS.out.2.2.1
            have hz3 := HS.out.1.fz (3 + m)
            have tn : ((3 : Int) + (m : Int)).toNat = 3 + m := by omega
            go_wp2_with (first
              | (at_builtin; refine wp_append_bytes rfl (.tmp 70) (.tmp 71) rfl wr.heap.size (0 + 32) v1 ([] ++ (node32 noNode).map (Value.int .u8)) rfl HO1.out (some ⟨g7, o7, none⟩) 32 c7 (node32 noNode) rfl HA1.out (by simp) (by omega) (by have := HB1.out.size; omega) ?_; intro v2 x2 hown2 hb2; have HB2 := Lib.hid (HB1.out.trans hb2); obtain ⟨g8, o8, c8, rfl, hA8, hg8⟩ := two_halves hown2 rfl (node32_len noNode_ok.2.2) (node32_len noNode_ok.2.2) (node32_byt _) (node32_byt _)
                 have HA8 := Lib.hid (And.intro hA8 hg8)
                 have r3 := HS.out.1.later HB2.out (by rw [ne_eq, ← List.length_eq_zero_iff, setsN_length]; have := HL2.out; omega)
                 obtain ⟨u3, k3⟩ := r3.cell (k := 3 + m) (by rw [setsN_length]; have := HL2.out; omega)
                 have z3 := r3.fz (3 + m)
                 clear hown2 hb2 hA8 hg8 r3)
              | (at_builtin; refine wp_append_bytes rfl (.tmp 68) (.tmp 69) rfl wr.heap.size 0 _ [] rfl HOa.out (some ⟨g7, o7, none⟩) 32 c7 (node32 noNode) rfl HAa.out (by simp) (by omega) (by simp) ?_; intro v1 x1 hown1 hb1; have HB1 := Lib.hid (HBa.out.trans hb1); have HO1 := Lib.hid hown1; have HA1 := Lib.hid ((HAs.out.later HB1.out).1); clear hown1 hb1))
            have hst := HS.out.set (k := 3 + m) HB2.out (by rw [setsN_length]; have := HL2.out; omega) HA8.out.2 HA8.out.1
            exact ⟨⟨m + 1, by omega, by go_num, Lib.hid hst⟩, by simp [intOf]; omega⟩
          · have hme : m = 16 := by omega
            subst hme
            have HOa : Hid ((wr.alloc (.cells #[] 5)).ownsRow wr.heap.size 5 1 (.slice (some ⟨wr.heap.size, 0, none⟩) 0 0) 0 []) := Lib.hid (World.ownsRow_made (base := wr.heap.size) (e := 5) (size := 1) wr #[] 0 (Nat.le_refl _) (by decide) rfl)
            have HBa : Hid (Below wr.heap.size wr (wr.alloc (.cells #[] 5))) := Lib.hid ((Below.refl _ _).alloc (Nat.le_refl _) _)
            have HAa := Lib.hid ((HS.out.2.1.later HBa.out).1)
            have HAs := Lib.hid HS.out.2.2.1
            have mi : (3 : Int) < (i : Int) := by omega
            go_wp2_with (first
              | (at_builtin; refine wp_append_bytes rfl (.tmp 77) (.tmp 78) rfl wr.heap.size (0 + 32) v1 ([] ++ (node32 (rootN f)).map (Value.int .u8)) rfl HO1.out (some ⟨g7, o7, none⟩) 32 c7 (node32 noNode) rfl HA1.out (by simp) (by omega) (by have := HB1.out.size; omega) ?_; intro v2 x2 hown2 hb2; have HB2 := Lib.hid (HB1.out.trans hb2); obtain ⟨g8, o8, c8, rfl, hA8, hg8⟩ := two_halves hown2 rfl (node32_len (root_ok hf).2.2) (node32_len noNode_ok.2.2) (node32_byt _) (node32_byt _)
                 have HA8 := Lib.hid (And.intro hA8 hg8)
                 have r3 := HS.out.1.later HB2.out (by rw [ne_eq, ← List.length_eq_zero_iff, setsN_length]; have := HL2.out; omega)
                 obtain ⟨u3, k3⟩ := r3.cell (k := 3) (by rw [setsN_length]; have := HL2.out; omega)
                 have z3 := r3.fz 3
                 clear hown2 hb2 hA8 hg8 r3)
              | (at_builtin; refine wp_append_bytes rfl (.tmp 75) (.tmp 76) rfl wr.heap.size 0 _ [] rfl HOa.out (some ⟨g6, o6, none⟩) 32 c6 (node32 (rootN f)) rfl HAa.out (by simp) (by omega) (by simp) ?_; intro v1 x1 hown1 hb1; have HB1 := Lib.hid (HBa.out.trans hb1); have HO1 := Lib.hid hown1; have HA1 := Lib.hid ((HAs.out.later HB1.out).1); clear hown1 hb1))
            have hst := HS.out.set (k := 3) HB2.out (by rw [setsN_length]; have := HL2.out; omega) HA8.out.2 HA8.out.1
            rw [HEQ.out, rowsE_is h0 hf] at hst
            have hcp := hcap
            go_ret
            have hr := hst.1.rows (cap := cap) (by rw [emptyP_length]; exact hcp)
            rw [emptyP_length] at hr
            exact ⟨_, _, rfl, hr, hst.1.below⟩
end Go.Proofs.YtmcblhgpcgnaoaaGreatDoor


namespace Go.Proofs.YtmcblhgpcgnaoaaGreatDoor.checkEmpty
open Go
set_option maxRecDepth 100000
theorem jn1 : (Rows.checkEmptyRow.wf (OpenSpec.ofChange (OpenSpec.ofChange Rows.checkEmptySpec).bare)) = true := by kernel_rfl
theorem jn2 : (laidOutB Tryz.pinned.checked.prog) = true := by kernel_rfl
theorem jn3 : (mapsRowed Tryz.pinned.checked.prog) = true := by kernel_rfl
theorem jn4 : (Tryz.f9.params.all (Program.readableRec Tryz.pinned.checked.prog ·)) = true := by kernel_rfl
theorem jn5 : (namedTie Tryz.pinned.checked.prog Rows.checkEmptyRow.named (OpenSpec.ofChange Rows.checkEmptySpec).bare.vars) = true := by kernel_rfl
theorem jn6 : ((Rows.checkEmptyRow.stops == [])) = true := by kernel_rfl
theorem jn7 : ((Program.stops Tryz.pinned.checked.prog == [])) = true := by kernel_rfl
theorem jn8 : ((Rows.checkEmptyRow.knobs == [])) = true := by kernel_rfl
theorem jn9 : ((Program.stopKnobs Tryz.pinned.checked.prog == [])) = true := by kernel_rfl
theorem jn10 : ((Rows.checkEmptyRow.inPlace == Program.inPlace Tryz.pinned.checked.prog 9)) = true := by kernel_rfl
theorem jn11 : ((Rows.checkEmptyRow.unfollowed == Program.unfollowed Tryz.pinned.checked.prog 9)) = true := by kernel_rfl
theorem jn12 : ((Rows.checkEmptyRow.recurses == Program.recurses Tryz.pinned.checked.prog 9)) = true := by kernel_rfl
theorem jn13 : ((Rows.checkEmptyRow.named == Program.varsNamed Tryz.pinned.checked.prog 9)) = true := by kernel_rfl
theorem jn14 : ((Rows.checkEmptyRow.maps == (Tryz.f9.params.toList ++ (OpenSpec.ofChange Rows.checkEmptySpec).bare.plain.varTypes Tryz.pinned.checked.prog).any (Program.mapsRec Tryz.pinned.checked.prog ·))) = true := by kernel_rfl
theorem jn15 : ((Rows.checkEmptyRow.ifaces == (Tryz.f9.params.toList ++ (OpenSpec.ofChange Rows.checkEmptySpec).bare.plain.varTypes Tryz.pinned.checked.prog).any (Program.ifacesRec Tryz.pinned.checked.prog ·))) = true := by kernel_rfl
theorem jn16 : ((Rows.checkEmptyRow.mapsOut == Program.mapsAmong Tryz.pinned.checked.prog Tryz.f9.resultTypes.toList)) = true := by kernel_rfl
theorem jn17 : ((Rows.checkEmptyRow.loops == (Tryz.f9.params.toList ++ (OpenSpec.ofChange Rows.checkEmptySpec).bare.plain.varTypes Tryz.pinned.checked.prog).any (Program.loopsFrom Tryz.pinned.checked.prog ·))) = true := by kernel_rfl
theorem jn18 : ((Rows.checkEmptyRow.wideKeys == (Tryz.f9.params.toList ++ (OpenSpec.ofChange Rows.checkEmptySpec).bare.plain.varTypes Tryz.pinned.checked.prog ++ Tryz.f9.resultTypes.toList).any (Program.wideKeysFrom Tryz.pinned.checked.prog ·))) = true := by kernel_rfl
theorem jn19 : ((OpenSpec.ofChange Rows.checkEmptySpec).bare.vars.all (Program.varReadable Tryz.pinned.checked.prog ·)) = true := by kernel_rfl
theorem jn20 : (Tryz.f9.resultTypes.all (fun t => Program.readableRec Tryz.pinned.checked.prog t && decide (t < Tryz.pinned.checked.prog.types.size))) = true := by kernel_rfl
theorem jn21 : ((Rows.checkEmptyRow.ifacesOut == Tryz.f9.resultTypes.toList.any (Program.ifacesRec Tryz.pinned.checked.prog ·))) = true := by kernel_rfl
theorem jn22 : ((Rows.checkEmptyRow.loopsOut == Tryz.f9.resultTypes.toList.any (Program.loopsFrom Tryz.pinned.checked.prog ·))) = true := by kernel_rfl
theorem jn23 : ((Rows.checkEmptyRow.plainKeys == Program.plainKeys Tryz.pinned.checked.prog)) = true := by kernel_rfl
theorem jn24 : (Rows.checkEmptyRow.shortTexts.isNone) = true := by kernel_rfl
theorem jn25 : (Program.stopsHeard Tryz.pinned.checked.prog) = true := by kernel_rfl
theorem jn26 : (Program.mayEnter Tryz.pinned.checked.prog) = true := by kernel_rfl
theorem jn27 : ((Rows.checkEmptyRow.lifted == Program.liftsFinal Tryz.pinned.checked.prog)) = true := by kernel_rfl
theorem jn28 : ((Tryz.pinned.checked.prog.make == some Rows.checkEmptyRow.make)) = true := by kernel_rfl
theorem jn29 : ((Rows.checkEmptyRow.kinds == (if Rows.checkEmptyRow.domain.isEmpty then [] else Tryz.f9.params.toList.map fun t => match Program.underlying Tryz.pinned.checked.prog t with | some (.int k) => some k | _ => none))) = true := by kernel_rfl
theorem jn30 : ((Rows.checkEmptyRow.pinned == Rows.checkEmptyRow.pinnedBy)) = true := by kernel_rfl
theorem jn31 : ((Rows.checkEmptyRow.veiled == (Tryz.f9.params.toList ++ (OpenSpec.ofChange Rows.checkEmptySpec).bare.plain.varTypes Tryz.pinned.checked.prog ++ Tryz.f9.resultTypes.toList).any (Program.veiledRec Tryz.pinned.checked.prog ·))) = true := by kernel_rfl
theorem jn32 : (Rows.checkEmptyRow.veiledFits Tryz.pinned.checked.prog Tryz.f9.params.toList (Tryz.f9.params.toList ++ (OpenSpec.ofChange Rows.checkEmptySpec).bare.plain.varTypes Tryz.pinned.checked.prog ++ Tryz.f9.resultTypes.toList)) = true := by kernel_rfl
theorem closed : joinedFacts Tryz.pinned.checked.prog 9 Tryz.f9 (OpenSpec.ofChange Rows.checkEmptySpec).bare Rows.checkEmptyRow = true := by
  unfold joinedFacts
  simp only [Bool.and_eq_true]
  exact ⟨⟨⟨⟨⟨⟨⟨⟨⟨⟨⟨⟨⟨⟨⟨⟨⟨⟨⟨⟨⟨⟨⟨⟨⟨⟨⟨⟨⟨⟨⟨jn1, jn2⟩, jn3⟩, jn4⟩, jn5⟩, jn6⟩, jn7⟩, jn8⟩, jn9⟩, jn10⟩, jn11⟩, jn12⟩, jn13⟩, jn14⟩, jn15⟩, jn16⟩, jn17⟩, jn18⟩, jn19⟩, jn20⟩, jn21⟩, jn22⟩, jn23⟩, jn24⟩, jn25⟩, jn26⟩, jn27⟩, jn28⟩, jn29⟩, jn30⟩, jn31⟩, jn32⟩
end Go.Proofs.YtmcblhgpcgnaoaaGreatDoor.checkEmpty

