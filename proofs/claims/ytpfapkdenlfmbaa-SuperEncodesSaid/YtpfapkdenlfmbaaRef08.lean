/-
  Proved here: what the document's own making of blocks of Supers and Heads (drydockref08: Encode, PutHead) answers.
  The conditions stand at each theorem.
-/
import Derived.Test.YtpfapkdenlfmbaaSup
import Derived.Test.YtpfapkdenlfmbaaStep
namespace Go.Proofs.Ytpfapkdenlfmbaa
open Go.RowKit

theorem in08_any (n lo hi : Int) (w : World) : Calls Try.prog 19 #[.int .i64 n, .int .i64 lo, .int .i64 hi] w fun e w' => e = .returned (.bool (decide (lo ≤ n ∧ n ≤ hi))) ∧ w = w' := by
  by_cases h1 : lo ≤ n
  · by_cases h2 : n ≤ hi
    · rw [decide_eq_true (And.intro h1 h2)]
      go_enter Try.func19, Try.ntmps19
      go_wp2
      go_ret
      exact ⟨rfl, rfl⟩
    · rw [decide_eq_false (fun h => h2 h.2)]
      go_enter Try.func19, Try.ntmps19
      go_wp2
      go_ret
      exact ⟨rfl, rfl⟩
  · rw [decide_eq_false (fun h => h1 h.1)]
    go_enter Try.func19, Try.ntmps19
    go_wp2
    go_ret
    exact ⟨rfl, rfl⟩

/-- 'append(dst, s...)', s a text. -/
theorem wp_append_text {ops : Array Oper} {rest : List Oper} {o : Oper} {a : Act} {Q : Exit → Act → World → Prop} {w : World} (hgd : o.guard = none) (s x : Operand)
    (ho : o.op = .call { callee := .builtin .append, args := #[s, x], argTypes := #[26, 9] }) (base n : Nat) (v : Value) (xs : List Value) (hs : a.eval s = v) (hown : w.ownsRow base 5 1 v n xs)
    (t : ByteArray) (hx : a.eval x = .string t) (hb : n + t.size ≤ 140737488355328) (hbase : base ≤ w.heap.size)
    (h : ∀ v' w', w'.ownsRow base 5 1 v' (n + t.size) (xs ++ (bytesOf t).map (Value.int .u8)) → Below base w w' → wpList Try.prog ops Q rest (a.put o.dst v') w') : wpList Try.prog ops Q (o :: rest) a w := by
  obtain ⟨i0, hi, hz0, hz1, hz2⟩ := info_parts info5
  refine Lib.wpList_append_own_string (P := Try.prog) w hgd s x 26 9 ho base 5 i0 Try.underlying26 Try.underlying9 hi hz0 hz1 hz2 v n xs hs hown t hx (by unfold maxLen; omega) hb hbase (fun v' w' h1 h2 _ => h v' w' (by rw [← strCells_bytes]; exact h1) ((Below.refl base w).grown h2 hbase (fun k hk => (hown.lt k hk).1)))

theorem put04 {base : Nat} {w : World} {v : Value} {len : Nat} {zs : List Int} {n : Int} {kz : Int} (k : Nat) (e : kz = k) (hown : w.ownsRow base 5 1 v len (zs.map (Value.int .u8))) (hbase : base ≤ w.heap.size)
    (hn : 0 ≤ n ∧ n ≤ 1073741824) (hk : k ≤ 8) (hlen : len ≤ 1000) : Calls Try.prog 20 #[v, .int .i64 n, .int .i64 kz] w (PutPost base w (len + k) (zs ++ leB n k)) := by
  subst e
  exact Put04_any base v len zs n k w hown hbase hn.1 (by omega) hk (by omega)

theorem seal04 {base n : Nat} {w : World} {v : Value} {zs : List Int} (h : w.ownsRow base 5 1 v n (zs.map (Value.int .u8))) (hz : ∀ z ∈ zs, 0 ≤ z ∧ z ≤ 255) (hn : n ≤ 1000) : Calls Try.prog 21 #[v] w (Gives w.heap.size w (sealOf sumS zs)) := by
  obtain ⟨ao, cap, rfl, hA, _⟩ := fresh_of_owns h hz (by omega)
  exact Seal04_any ao _ cap zs w hA

/-- A field of a variable that was made. -/
theorem made_at (w : World) (cs : Array Value) (T : TypeId) (j : Nat) (v : Value) (h : cs[j]? = some v) : (w.alloc (.cells cs T)).cell? ⟨w.heap.size, j, none⟩ = some v := by
  rw [World.cell?_alloc_new]
  exact h

/-- Behind a variable that was made: an empty list. -/
theorem made_empty (w : World) (cs : Array Value) (T : TypeId) : Hid (((w.alloc (.cells cs T)).alloc (.cells #[] 5)).ownsRow (w.heap.size + 1) 5 1 (.slice (some ⟨w.heap.size + 1, 0, none⟩) 0 0) 0 []) ∧ Hid (Below (w.heap.size + 1) (w.alloc (.cells cs T)) ((w.alloc (.cells cs T)).alloc (.cells #[] 5))) := by
  have h1 := World.ownsRow_made (base := (w.alloc (.cells cs T)).heap.size) (e := 5) (size := 1) (w.alloc (.cells cs T)) #[] 0 (Nat.le_refl _) (by decide) rfl
  have h2 : Below (w.alloc (.cells cs T)).heap.size (w.alloc (.cells cs T)) ((w.alloc (.cells cs T)).alloc (.cells #[] 5)) := (Below.refl _ _).alloc (Nat.le_refl _) _
  rw [World.size_alloc] at h1 h2
  exact ⟨Lib.hid h1, Lib.hid h2⟩

set_option maxHeartbeats 1600000 in
theorem put08_any (h : PHead) (w : World) (hi : h.in64) : Calls Try.prog 10 #[h.val] w (Handed w.heap.size w (headOut h) (headErr h)) := by
  obtain ⟨a, b⟩ := h
  obtain ⟨ia, ib⟩ := hi
  unfold PHead.val
  by_cases ha : 0 ≤ a ∧ a ≤ 39
  case neg =>
    have HE : Hid (headErr (⟨a, b⟩ : PHead) = 2 ∧ headOut (⟨a, b⟩ : PHead) = []) := Lib.hid (by
      have e : (⟨a, b⟩ : PHead).sound = false := by unfold PHead.sound; rw [decide_eq_false_iff_not]; intro h; have h1 : 0 ≤ a ∧ a ≤ 39 ∧ 1 ≤ b ∧ b ≤ 1073741824 := h; exact ha (by omega)
      unfold headErr headOut; rw [e]; exact ⟨rfl, rfl⟩)
    have ca := Lib.hid (decide_eq_false ha)
    clear ha
    go_enter Try.func10, Try.ntmps10
    go_wp2_with (first | (go_at_call 19; refine (in08_any _ _ _ _).mono ?_; rintro e w1 ⟨rfl, rfl⟩; first | rw [ca.out]))
    go_ret2
    exact ⟨.slice none 0 0, by rw [HE.out.1]; rfl, by rw [HE.out.2]; exact Fresh.nil _ _, (Below.refl _ _).alloc (Nat.le_refl _) _⟩
  by_cases hb : 1 ≤ b ∧ b ≤ 1073741824
  case neg =>
    have HE : Hid (headErr (⟨a, b⟩ : PHead) = 2 ∧ headOut (⟨a, b⟩ : PHead) = []) := Lib.hid (by
      have e : (⟨a, b⟩ : PHead).sound = false := by unfold PHead.sound; rw [decide_eq_false_iff_not]; intro h; have h1 : 0 ≤ a ∧ a ≤ 39 ∧ 1 ≤ b ∧ b ≤ 1073741824 := h; exact hb (by omega)
      unfold headErr headOut; rw [e]; exact ⟨rfl, rfl⟩)
    have ca := Lib.hid (decide_eq_true ha)
    have cb := Lib.hid (decide_eq_false hb)
    clear ha hb
    go_enter Try.func10, Try.ntmps10
    go_wp2_with (first | (go_at_call 19; refine (in08_any _ _ _ _).mono ?_; rintro e w1 ⟨rfl, rfl⟩; first | rw [ca.out] | rw [cb.out]))
    go_ret2
    exact ⟨.slice none 0 0, by rw [HE.out.1]; rfl, by rw [HE.out.2]; exact Fresh.nil _ _, (Below.refl _ _).alloc (Nat.le_refl _) _⟩
  have HE : Hid (headErr (⟨a, b⟩ : PHead) = 0 ∧ headOut (⟨a, b⟩ : PHead) = sealOf sumS (headB (⟨a, b⟩ : PHead))) := Lib.hid (by
    have e : (⟨a, b⟩ : PHead).sound = true := by unfold PHead.sound; rw [decide_eq_true_iff]; show 0 ≤ a ∧ a ≤ 39 ∧ 1 ≤ b ∧ b ≤ 1073741824; omega
    unfold headErr headOut; rw [e]; exact ⟨rfl, rfl⟩)
  have ca := Lib.hid (decide_eq_true ha)
  have Ha : Hid (0 ≤ a ∧ a ≤ 1073741824) := Lib.hid (by omega)
  have cb := Lib.hid (decide_eq_true hb)
  have Hb : Hid (0 ≤ b ∧ b ≤ 1073741824) := Lib.hid (by omega)
  clear ha hb
  obtain ⟨W, hW⟩ : ∃ W, W = w.alloc (.cells #[.int .i64 a, .int .i64 b] 25) := ⟨_, rfl⟩
  have HBW : Hid (Below w.heap.size w W) := Lib.hid (by rw [hW]; exact (Below.refl _ _).alloc (Nat.le_refl _) _)
  have F0a : Hid (W.cell? ⟨w.heap.size, 0, none⟩ = some (.int .i64 a)) := Lib.hid (by rw [hW]; exact made_at _ _ _ _ _ rfl)
  have F0b : Hid (W.cell? ⟨w.heap.size, 1, none⟩ = some (.int .i64 b)) := Lib.hid (by rw [hW]; exact made_at _ _ _ _ _ rfl)
  have HWL : Hid (w.heap.size ≤ W.heap.size) := Lib.hid HBW.out.size
  have HW := Lib.hid hW
  clear hW
  obtain ⟨HM, HN⟩ := made_empty w #[.int .i64 a, .int .i64 b] 25
  go_enter Try.func10, Try.ntmps10
  go_wp2_with (first
    | (go_at_call 19; refine (in08_any _ _ _ _).mono ?_; rintro e w1 ⟨rfl, rfl⟩; first | rw [ca.out] | rw [cb.out])
    | (go_at_call 21; refine (seal04 O3.out (headB_bytes (⟨a, b⟩ : PHead)) (by decide)).mono ?_; rintro e w4 ⟨v4, rfl, h5, b5⟩; have B4 := Lib.hid (B3.out.trans (b5.mono B3.out.size)); have R4 := Lib.hid (h5.mono (Nat.le_trans HWL.out B3.out.size)); clear h5 b5)
    | (go_at_call 20; refine (put04 4 rfl O2.out (B2.out.size) Hb.out (by decide) (by decide)).mono ?_; rintro e w3 ⟨v3, rfl, h5, b5⟩; have B3 := Lib.hid (B2.out.trans b5); have O3 := Lib.hid h5; have f3a := cell_later B3.out F0a.out; have f3b := cell_later B3.out F0b.out; clear h5 b5)
    | (go_at_call 20; refine (put04 4 rfl O1.out (B1.out.size) Ha.out (by decide) (by decide)).mono ?_; rintro e w2 ⟨v2, rfl, h5, b5⟩; have B2 := Lib.hid (B1.out.trans b5); have O2 := Lib.hid h5; have f2a := cell_later B2.out F0a.out; have f2b := cell_later B2.out F0b.out; clear h5 b5)
    | (at_builtin; refine wp_append_text rfl (.tmp 15) _ rfl (w.heap.size + 1) 0 _ [] rfl HM.out _ rfl (by decide) (by simp) ?_; intro v1 w1 hown1 hb1; have hb2 := HN.out.trans hb1; rw [← World.size_alloc w (.cells #[.int .i64 a, .int .i64 b] 25), ← HW.out] at hown1 hb2; have B1 := Lib.hid hb2; have O1 : Hid (w1.ownsRow W.heap.size 5 1 v1 4 (headT.map (Value.int .u8))) := Lib.hid hown1; have f1a := cell_later B1.out F0a.out; have f1b := cell_later B1.out F0b.out; clear hown1 hb1 hb2))
  go_ret2
  exact ⟨_, by rw [HE.out.1]; rfl, by rw [HE.out.2]; exact R4.out, HBW.out.trans (B4.out.mono HWL.out)⟩

set_option maxHeartbeats 1600000 in
theorem enc08_any (h : PSup) (w : World) (hi : h.in64) : Calls Try.prog 8 #[h.val] w (Handed w.heap.size w (supOut h) (supErr h)) := by
  obtain ⟨a, b, c, d, e⟩ := h
  obtain ⟨ia, ib, ic, id, ie⟩ := hi
  unfold PSup.val
  by_cases ha : 64 ≤ a ∧ a ≤ 480
  case neg =>
    have HE : Hid (supErr (⟨a, b, c, d, e⟩ : PSup) = 2 ∧ supOut (⟨a, b, c, d, e⟩ : PSup) = []) := Lib.hid (by
      have e : (⟨a, b, c, d, e⟩ : PSup).sound = false := by unfold PSup.sound; rw [decide_eq_false_iff_not]; intro h; have h1 : 64 ≤ a ∧ a ≤ 480 ∧ 1 ≤ b ∧ b ≤ 3 ∧ 0 ≤ c ∧ c ≤ 3 ∧ 0 ≤ d ∧ d ≤ 32 ∧ 0 ≤ e ∧ e ≤ 480 := h; exact ha (by omega)
      unfold supErr supOut; rw [e]; exact ⟨rfl, rfl⟩)
    have ca := Lib.hid (decide_eq_false ha)
    clear ha
    go_enter Try.func8, Try.ntmps8
    go_wp2_with (first | (go_at_call 19; refine (in08_any _ _ _ _).mono ?_; rintro e w1 ⟨rfl, rfl⟩; first | rw [ca.out]))
    go_ret2
    exact ⟨.slice none 0 0, by rw [HE.out.1]; rfl, by rw [HE.out.2]; exact Fresh.nil _ _, (Below.refl _ _).alloc (Nat.le_refl _) _⟩
  by_cases hb : 1 ≤ b ∧ b ≤ 3
  case neg =>
    have HE : Hid (supErr (⟨a, b, c, d, e⟩ : PSup) = 2 ∧ supOut (⟨a, b, c, d, e⟩ : PSup) = []) := Lib.hid (by
      have e : (⟨a, b, c, d, e⟩ : PSup).sound = false := by unfold PSup.sound; rw [decide_eq_false_iff_not]; intro h; have h1 : 64 ≤ a ∧ a ≤ 480 ∧ 1 ≤ b ∧ b ≤ 3 ∧ 0 ≤ c ∧ c ≤ 3 ∧ 0 ≤ d ∧ d ≤ 32 ∧ 0 ≤ e ∧ e ≤ 480 := h; exact hb (by omega)
      unfold supErr supOut; rw [e]; exact ⟨rfl, rfl⟩)
    have ca := Lib.hid (decide_eq_true ha)
    have cb := Lib.hid (decide_eq_false hb)
    clear ha hb
    go_enter Try.func8, Try.ntmps8
    go_wp2_with (first | (go_at_call 19; refine (in08_any _ _ _ _).mono ?_; rintro e w1 ⟨rfl, rfl⟩; first | rw [ca.out] | rw [cb.out]))
    go_ret2
    exact ⟨.slice none 0 0, by rw [HE.out.1]; rfl, by rw [HE.out.2]; exact Fresh.nil _ _, (Below.refl _ _).alloc (Nat.le_refl _) _⟩
  by_cases hc : 0 ≤ c ∧ c ≤ 3
  case neg =>
    have HE : Hid (supErr (⟨a, b, c, d, e⟩ : PSup) = 2 ∧ supOut (⟨a, b, c, d, e⟩ : PSup) = []) := Lib.hid (by
      have e : (⟨a, b, c, d, e⟩ : PSup).sound = false := by unfold PSup.sound; rw [decide_eq_false_iff_not]; intro h; have h1 : 64 ≤ a ∧ a ≤ 480 ∧ 1 ≤ b ∧ b ≤ 3 ∧ 0 ≤ c ∧ c ≤ 3 ∧ 0 ≤ d ∧ d ≤ 32 ∧ 0 ≤ e ∧ e ≤ 480 := h; exact hc (by omega)
      unfold supErr supOut; rw [e]; exact ⟨rfl, rfl⟩)
    have ca := Lib.hid (decide_eq_true ha)
    have cb := Lib.hid (decide_eq_true hb)
    have cc := Lib.hid (decide_eq_false hc)
    clear ha hb hc
    go_enter Try.func8, Try.ntmps8
    go_wp2_with (first | (go_at_call 19; refine (in08_any _ _ _ _).mono ?_; rintro e w1 ⟨rfl, rfl⟩; first | rw [ca.out] | rw [cb.out] | rw [cc.out]))
    go_ret2
    exact ⟨.slice none 0 0, by rw [HE.out.1]; rfl, by rw [HE.out.2]; exact Fresh.nil _ _, (Below.refl _ _).alloc (Nat.le_refl _) _⟩
  by_cases hd : 0 ≤ d ∧ d ≤ 32
  case neg =>
    have HE : Hid (supErr (⟨a, b, c, d, e⟩ : PSup) = 2 ∧ supOut (⟨a, b, c, d, e⟩ : PSup) = []) := Lib.hid (by
      have e : (⟨a, b, c, d, e⟩ : PSup).sound = false := by unfold PSup.sound; rw [decide_eq_false_iff_not]; intro h; have h1 : 64 ≤ a ∧ a ≤ 480 ∧ 1 ≤ b ∧ b ≤ 3 ∧ 0 ≤ c ∧ c ≤ 3 ∧ 0 ≤ d ∧ d ≤ 32 ∧ 0 ≤ e ∧ e ≤ 480 := h; exact hd (by omega)
      unfold supErr supOut; rw [e]; exact ⟨rfl, rfl⟩)
    have ca := Lib.hid (decide_eq_true ha)
    have cb := Lib.hid (decide_eq_true hb)
    have cc := Lib.hid (decide_eq_true hc)
    have cd := Lib.hid (decide_eq_false hd)
    clear ha hb hc hd
    go_enter Try.func8, Try.ntmps8
    go_wp2_with (first | (go_at_call 19; refine (in08_any _ _ _ _).mono ?_; rintro e w1 ⟨rfl, rfl⟩; first | rw [ca.out] | rw [cb.out] | rw [cc.out] | rw [cd.out]))
    go_ret2
    exact ⟨.slice none 0 0, by rw [HE.out.1]; rfl, by rw [HE.out.2]; exact Fresh.nil _ _, (Below.refl _ _).alloc (Nat.le_refl _) _⟩
  by_cases he : 0 ≤ e ∧ e ≤ 480
  case neg =>
    have HE : Hid (supErr (⟨a, b, c, d, e⟩ : PSup) = 2 ∧ supOut (⟨a, b, c, d, e⟩ : PSup) = []) := Lib.hid (by
      have e : (⟨a, b, c, d, e⟩ : PSup).sound = false := by unfold PSup.sound; rw [decide_eq_false_iff_not]; intro h; have h1 : 64 ≤ a ∧ a ≤ 480 ∧ 1 ≤ b ∧ b ≤ 3 ∧ 0 ≤ c ∧ c ≤ 3 ∧ 0 ≤ d ∧ d ≤ 32 ∧ 0 ≤ e ∧ e ≤ 480 := h; exact he (by omega)
      unfold supErr supOut; rw [e]; exact ⟨rfl, rfl⟩)
    have ca := Lib.hid (decide_eq_true ha)
    have cb := Lib.hid (decide_eq_true hb)
    have cc := Lib.hid (decide_eq_true hc)
    have cd := Lib.hid (decide_eq_true hd)
    have ce := Lib.hid (decide_eq_false he)
    clear ha hb hc hd he
    go_enter Try.func8, Try.ntmps8
    go_wp2_with (first | (go_at_call 19; refine (in08_any _ _ _ _).mono ?_; rintro e w1 ⟨rfl, rfl⟩; first | rw [ca.out] | rw [cb.out] | rw [cc.out] | rw [cd.out] | rw [ce.out]))
    go_ret2
    exact ⟨.slice none 0 0, by rw [HE.out.1]; rfl, by rw [HE.out.2]; exact Fresh.nil _ _, (Below.refl _ _).alloc (Nat.le_refl _) _⟩
  have HE : Hid (supErr (⟨a, b, c, d, e⟩ : PSup) = 0 ∧ supOut (⟨a, b, c, d, e⟩ : PSup) = sealOf sumS (supB (⟨a, b, c, d, e⟩ : PSup))) := Lib.hid (by
    have e : (⟨a, b, c, d, e⟩ : PSup).sound = true := by unfold PSup.sound; rw [decide_eq_true_iff]; show 64 ≤ a ∧ a ≤ 480 ∧ 1 ≤ b ∧ b ≤ 3 ∧ 0 ≤ c ∧ c ≤ 3 ∧ 0 ≤ d ∧ d ≤ 32 ∧ 0 ≤ e ∧ e ≤ 480; omega
    unfold supErr supOut; rw [e]; exact ⟨rfl, rfl⟩)
  have ca := Lib.hid (decide_eq_true ha)
  have Ha : Hid (0 ≤ a ∧ a ≤ 1073741824) := Lib.hid (by omega)
  have cb := Lib.hid (decide_eq_true hb)
  have Hb : Hid (0 ≤ b ∧ b ≤ 1073741824) := Lib.hid (by omega)
  have cc := Lib.hid (decide_eq_true hc)
  have Hc : Hid (0 ≤ c ∧ c ≤ 1073741824) := Lib.hid (by omega)
  have cd := Lib.hid (decide_eq_true hd)
  have Hd : Hid (0 ≤ d ∧ d ≤ 1073741824) := Lib.hid (by omega)
  have ce := Lib.hid (decide_eq_true he)
  have He : Hid (0 ≤ e ∧ e ≤ 1073741824) := Lib.hid (by omega)
  clear ha hb hc hd he
  obtain ⟨W, hW⟩ : ∃ W, W = w.alloc (.cells #[.int .i64 a, .int .i64 b, .int .i64 c, .int .i64 d, .int .i64 e] 23) := ⟨_, rfl⟩
  have HBW : Hid (Below w.heap.size w W) := Lib.hid (by rw [hW]; exact (Below.refl _ _).alloc (Nat.le_refl _) _)
  have F0a : Hid (W.cell? ⟨w.heap.size, 0, none⟩ = some (.int .i64 a)) := Lib.hid (by rw [hW]; exact made_at _ _ _ _ _ rfl)
  have F0b : Hid (W.cell? ⟨w.heap.size, 1, none⟩ = some (.int .i64 b)) := Lib.hid (by rw [hW]; exact made_at _ _ _ _ _ rfl)
  have F0c : Hid (W.cell? ⟨w.heap.size, 2, none⟩ = some (.int .i64 c)) := Lib.hid (by rw [hW]; exact made_at _ _ _ _ _ rfl)
  have F0d : Hid (W.cell? ⟨w.heap.size, 3, none⟩ = some (.int .i64 d)) := Lib.hid (by rw [hW]; exact made_at _ _ _ _ _ rfl)
  have F0e : Hid (W.cell? ⟨w.heap.size, 4, none⟩ = some (.int .i64 e)) := Lib.hid (by rw [hW]; exact made_at _ _ _ _ _ rfl)
  have HWL : Hid (w.heap.size ≤ W.heap.size) := Lib.hid HBW.out.size
  have HW := Lib.hid hW
  clear hW
  obtain ⟨HM, HN⟩ := made_empty w #[.int .i64 a, .int .i64 b, .int .i64 c, .int .i64 d, .int .i64 e] 23
  go_enter Try.func8, Try.ntmps8
  go_wp2_with (first
    | (go_at_call 19; refine (in08_any _ _ _ _).mono ?_; rintro e w1 ⟨rfl, rfl⟩; first | rw [ca.out] | rw [cb.out] | rw [cc.out] | rw [cd.out] | rw [ce.out])
    | (go_at_call 21; refine (seal04 O6.out (supB_bytes (⟨a, b, c, d, e⟩ : PSup)) (by decide)).mono ?_; rintro e w7 ⟨v7, rfl, h5, b5⟩; have B7 := Lib.hid (B6.out.trans (b5.mono B6.out.size)); have R7 := Lib.hid (h5.mono (Nat.le_trans HWL.out B6.out.size)); clear h5 b5)
    | (go_at_call 20; refine (put04 2 rfl O5.out (B5.out.size) He.out (by decide) (by decide)).mono ?_; rintro e w6 ⟨v6, rfl, h5, b5⟩; have B6 := Lib.hid (B5.out.trans b5); have O6 := Lib.hid h5; have f6a := cell_later B6.out F0a.out; have f6b := cell_later B6.out F0b.out; have f6c := cell_later B6.out F0c.out; have f6d := cell_later B6.out F0d.out; have f6e := cell_later B6.out F0e.out; clear h5 b5)
    | (go_at_call 20; refine (put04 2 rfl O4.out (B4.out.size) Hd.out (by decide) (by decide)).mono ?_; rintro e w5 ⟨v5, rfl, h5, b5⟩; have B5 := Lib.hid (B4.out.trans b5); have O5 := Lib.hid h5; have f5a := cell_later B5.out F0a.out; have f5b := cell_later B5.out F0b.out; have f5c := cell_later B5.out F0c.out; have f5d := cell_later B5.out F0d.out; have f5e := cell_later B5.out F0e.out; clear h5 b5)
    | (go_at_call 20; refine (put04 1 rfl O3.out (B3.out.size) Hc.out (by decide) (by decide)).mono ?_; rintro e w4 ⟨v4, rfl, h5, b5⟩; have B4 := Lib.hid (B3.out.trans b5); have O4 := Lib.hid h5; have f4a := cell_later B4.out F0a.out; have f4b := cell_later B4.out F0b.out; have f4c := cell_later B4.out F0c.out; have f4d := cell_later B4.out F0d.out; have f4e := cell_later B4.out F0e.out; clear h5 b5)
    | (go_at_call 20; refine (put04 1 rfl O2.out (B2.out.size) Hb.out (by decide) (by decide)).mono ?_; rintro e w3 ⟨v3, rfl, h5, b5⟩; have B3 := Lib.hid (B2.out.trans b5); have O3 := Lib.hid h5; have f3a := cell_later B3.out F0a.out; have f3b := cell_later B3.out F0b.out; have f3c := cell_later B3.out F0c.out; have f3d := cell_later B3.out F0d.out; have f3e := cell_later B3.out F0e.out; clear h5 b5)
    | (go_at_call 20; refine (put04 2 rfl O1.out (B1.out.size) Ha.out (by decide) (by decide)).mono ?_; rintro e w2 ⟨v2, rfl, h5, b5⟩; have B2 := Lib.hid (B1.out.trans b5); have O2 := Lib.hid h5; have f2a := cell_later B2.out F0a.out; have f2b := cell_later B2.out F0b.out; have f2c := cell_later B2.out F0c.out; have f2d := cell_later B2.out F0d.out; have f2e := cell_later B2.out F0e.out; clear h5 b5)
    | (at_builtin; refine wp_append_text rfl (.tmp 33) _ rfl (w.heap.size + 1) 0 _ [] rfl HM.out _ rfl (by decide) (by simp) ?_; intro v1 w1 hown1 hb1; have hb2 := HN.out.trans hb1; rw [← World.size_alloc w (.cells #[.int .i64 a, .int .i64 b, .int .i64 c, .int .i64 d, .int .i64 e] 23), ← HW.out] at hown1 hb2; have B1 := Lib.hid hb2; have O1 : Hid (w1.ownsRow W.heap.size 5 1 v1 4 (dryd.map (Value.int .u8))) := Lib.hid hown1; have f1a := cell_later B1.out F0a.out; have f1b := cell_later B1.out F0b.out; have f1c := cell_later B1.out F0c.out; have f1d := cell_later B1.out F0d.out; have f1e := cell_later B1.out F0e.out; clear hown1 hb1 hb2))
  go_ret2
  exact ⟨_, by rw [HE.out.1]; rfl, by rw [HE.out.2]; exact R7.out, HBW.out.trans (B7.out.mono HWL.out)⟩

end Go.Proofs.Ytpfapkdenlfmbaa
