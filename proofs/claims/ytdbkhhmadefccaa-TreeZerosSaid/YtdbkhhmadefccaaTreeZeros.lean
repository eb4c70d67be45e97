/-
  Proved here: zeros behind pointers change nothing; one pointer behind zeros needs as many blocks as there are on the way. No conditions.
-/
import Derived.Test.YtdbkhhmadefccaaAwake11
import Derived.Test.YtdbkhhmadefccaaTrZeros
namespace Go.Proofs.Ytdbkhhmadefccaa.treeZeros
open Go.ChangeShapes Go.WideShapes Go.ChangeAt Go.RowKit
open Go.ChangeMaps (open_string shut_string)
set_option linter.unusedVariables false
set_option linter.unusedSimpArgs false

theorem ones_cells (m : Nat) : (madeCells #[Value.int .i64 0] (m + 1)) = (ints (List.replicate (m + 1) 0)).toArray := by
  apply Array.ext'
  refine List.ext_getElem? (fun j => ?_)
  rw [Array.getElem?_toList]
  unfold ints
  by_cases h : j < m + 1
  · simp [madeCells, h, Nat.mod_one]
  · simp [madeCells, h]

theorem ones_made (W : World) (m : Nat) (hm : m < 96) : OwnV W.heap.size W W.heap.size (ints (List.replicate (m + 1) 0)) (W.alloc (.cells (madeCells #[Value.int .i64 0] (m + 1)) 3)) := by
  rw [ones_cells]
  exact made_ints W _ _

theorem ones_set {W w0 : World} {g m n : Nat} (h0 : OwnV w0.heap.size w0 g (ints (List.replicate n 0)) W) (hn : n = m + 1) (hm : m < 96) : IArg (W.setCell ⟨g, m, none⟩ (.int .i64 100)) (some ⟨g, 0, none⟩) n n (List.replicate m 0 ++ [100]) ∧ Below w0.heap.size w0 (W.setCell ⟨g, m, none⟩ (.int .i64 100)) := by
  subst hn
  have h := h0.store (k := m) (y := .int .i64 100) (by rw [ints_length, List.length_replicate]; omega)
  have e : (ints (List.replicate (m + 1) 0)).set m (.int .i64 100) = ints (List.replicate m 0 ++ [100]) := by
    rw [← ints_set]
    congr 1
    apply List.ext_getElem?
    intro j
    rw [List.getElem?_set, List.length_replicate]
    rcases Nat.lt_trichotomy j m with hj | hj | hj
    · rw [if_neg (by omega), List.getElem?_replicate, if_pos (by omega), List.getElem?_append_left (by rw [List.length_replicate]; exact hj), List.getElem?_replicate, if_pos hj]
    · subst hj
      rw [if_pos rfl, if_pos (by omega), List.getElem?_append_right (by rw [List.length_replicate]; omega), List.length_replicate, Nat.sub_self]
      rfl
    · rw [if_neg (by omega), List.getElem?_replicate, if_neg (by omega), List.getElem?_eq_none (by simp; omega)]
  rw [e] at h
  refine ⟨?_, h.2.2.2⟩
  have hi := iarg_of_range (cap := m + 1) (own_range h) (fun z hz => ?_) (by simp; omega) (by simp)
  · rwa [List.length_append, List.length_replicate] at hi
  · rcases List.mem_append.1 hz with hz | hz
    · rw [List.eq_of_mem_replicate hz]; exact ⟨by decide, by decide⟩
    · rw [List.mem_singleton.1 hz]; exact ⟨by decide, by decide⟩

theorem wp_make_one {ops : Array Oper} {rest : List Oper} {o : Oper} {a : Act} {w : World} {Q : Exit → Act → World → Prop} (hgd : o.guard = none) (x : Operand) (ho : o.op = .makeSlice 22 x x) (m n : Nat) (hn : Hid (n = m + 1)) (hm : Hid (m < 96)) (hx : a.eval x = .int .i64 (n : Int))
    (h : ∀ g W, OwnV w.heap.size w g (ints (List.replicate n 0)) W → W.cell? ⟨g, m, none⟩ = some (.int .i64 0) → W.frozen? ⟨g, m, none⟩ = false → wpList Try.prog ops Q rest (a.put o.dst (.slice (some ⟨g, 0, none⟩) n n)) W) : wpList Try.prog ops Q (o :: rest) a w := by
  have hnm := hn.out
  have hm' := hm.out
  have hr := run_make_vals elemI w n (by omega)
  rw [show (Value.int .i64 0).cells = #[Value.int .i64 0] from rfl] at hr
  have hO : OwnV w.heap.size w w.heap.size (ints (List.replicate n 0)) (w.alloc (.cells (madeCells #[Value.int .i64 0] n) 3)) := by
    rw [hnm]
    exact ones_made w m hm'
  refine wpList_plain hgd fun K hK => ?_
  unfold Oper.wp
  simp [execOp, ho, hx, hr, Result.andThen]
  exact hK _ _ (h _ _ hO (hO.1 m _ (ints_get (by rw [List.getElem?_replicate, if_pos (by omega)]))) (by simp))

theorem ws_len (zs fs : List Int) : (planWs zs fs).length ≤ 1000 := by
  unfold planWs
  split
  · unfold writesP
    have h : ∀ b p xs, (whenW b p xs).length ≤ 1 := fun b p xs => by unfold whenW; split <;> simp
    have h1 := h (someP zs 4 30) (singleP zs fs) (partP zs 4 30)
    have h2 := h (doubleB zs) (doubleP zs fs) [under0 zs fs, under1 zs fs, under2 zs fs]
    have h3 := h (someP zs 34 30) (under0 zs fs) (partP zs 34 30)
    have h4 := h (someP zs 64 30) (under1 zs fs) (partP zs 64 30)
    have h5 := h (someP zs 94 30) (under2 zs fs) (partP zs 94 30)
    simp only [List.length_append]
    omega
  · simp

theorem plan_same {l fs : List Int} {n : Nat} (h : l.length + n ≤ 96) : planErr (l ++ List.replicate n 0) fs = planErr l fs ∧ planNode (l ++ List.replicate n 0) fs = planNode l fs ∧ planWs (l ++ List.replicate n 0) fs = planWs l fs := by
  obtain ⟨h1, h2, h3⟩ := writes_zeros l fs n
  have e := plan_zeros fs h
  refine ⟨e, ?_, ?_⟩
  · unfold planNode
    rw [e, h2, h3, getD_zeros, getD_zeros, getD_zeros, getD_zeros]
  · unfold planWs
    rw [e, h1]

/-- What Plan of a list, and of one with zeros behind it, answers: alike. -/
theorem plans_alike {w : World} {a0 a1 : Option Addr} {len0 cap0 len1 cap1 : Nat} {z0 z1 : List Int} (h0 : IArg w a0 len0 cap0 z0) (h1 : IArg w a1 len1 cap1 z1) :
    ∃ (f p q r u s t E : Int) (ws : List (Int × List Int)), ws.length ≤ 1000 ∧ ∀ W ao c n, Below w.heap.size w W → IArg W ao (len0 + n) c (z0 ++ List.replicate n 0) → len0 + n ≤ 96 ∨ n = 0 →
      Calls Try.prog 11 #[.slice ao ((len0 + n : Nat)) c, .slice a1 len1 cap1] W fun e w' => ∃ v k, e = .returned (.tuple #[nodeV f p q r u s t, .slice v ws.length k, .int .i64 E]) ∧ WIs w' v ws.length ws ∧ Below W.heap.size W w' := by
  obtain ⟨f, p, q, r, u, s, t, hN⟩ := planNode_form z0 z1
  refine ⟨f, p, q, r, u, s, t, planErr z0 z1, planWs z0 z1, ws_len z0 z1, fun W ao c n hW hA hn => ?_⟩
  refine (Plan_any ao a1 (len0 + n) c len1 cap1 _ z1 W hA (h1.later hW)).mono fun e w' h => ?_
  unfold PlanEnd at h
  obtain ⟨v, rfl, hw, hb⟩ := h
  have hs : planErr (z0 ++ List.replicate n 0) z1 = planErr z0 z1 ∧ planNode (z0 ++ List.replicate n 0) z1 = planNode z0 z1 ∧ planWs (z0 ++ List.replicate n 0) z1 = planWs z0 z1 := by
    rcases hn with hn | rfl
    · exact plan_same (by rw [h0.len]; exact hn)
    · rw [List.replicate_zero, List.append_nil]; exact ⟨rfl, rfl, rfl⟩
  rw [hs.2.2] at hw
  obtain ⟨wa, wc, rfl, hwi, _⟩ := hw.wis (ws_len z0 z1)
  exact ⟨wa, wc, by rw [hs.1, hs.2.1, hN], hwi, hb⟩

theorem wp_first {ops : Array Oper} {rest : List Oper} {o : Oper} {a : Act} {w : World} {Q : Exit → Act → World → Prop} (hgd : o.guard = none) (s y : Operand) (ho : o.op = .call { callee := .builtin .append, args := #[s, y], argTypes := #[22, 22] }) (ao : Option Addr) (m c : Nat) (zs : List Int)
    (w0 : World) (hs : a.eval s = .slice (some ⟨w0.heap.size, 0, none⟩) 0 0) (hy : a.eval y = .slice ao m c) (hw : w = w0.alloc (.cells #[] 3)) (hA : IArg w0 ao m c zs) (hc : m ≤ 17592186043904)
    (h : ∀ v k W, W.ownsRow w0.heap.size 3 1 (.slice v m k) m (ints zs) → Below w0.heap.size w0 W → wpList Try.prog ops Q rest (a.put o.dst (.slice v m k)) W) : wpList Try.prog ops Q (o :: rest) a w := by
  subst hw
  have hO : (w0.alloc (.cells #[] 3)).ownsRow w0.heap.size 3 1 (.slice (some ⟨w0.heap.size, 0, none⟩) 0 0) 0 [] := World.ownsRow_made (base := w0.heap.size) (e := 3) (size := 1) w0 #[] 0 (Nat.le_refl _) (by decide) rfl
  have hB : Below w0.heap.size w0 (w0.alloc (.cells #[] 3)) := (Below.refl _ _).alloc (Nat.le_refl _) _
  refine wp_append_known hgd s y _ _ ho _ _ hs hy (fun v' w' => w'.ownsRow w0.heap.size 3 1 v' (0 + m) ([] ++ ints zs) ∧ Below w0.heap.size (w0.alloc (.cells #[] 3)) w') (run_append_nums _ _ _ _ _ _ hO ao m c zs (hA.later hB) (by omega) (by simp)) ?_
  rintro v' w' ⟨h1, h2⟩
  rw [Nat.zero_add, List.nil_append] at h1
  obtain ⟨v, k, rfl⟩ := owns_shape_r h1
  exact h v k w' h1 (hB.trans h2)

theorem wp_second {ops : Array Oper} {rest : List Oper} {o : Oper} {a : Act} {w : World} {Q : Exit → Act → World → Prop} (hgd : o.guard = none) (s y : Operand) (ho : o.op = .call { callee := .builtin .append, args := #[s, y], argTypes := #[22, 3] }) (v : Value) (base m k : Nat) (zs : List Int)
    (hs : a.eval s = v) (hy : a.eval y = .int .i64 (k : Int)) (hO : w.ownsRow base 3 1 v m (ints zs)) (hc : m ≤ 17592186043904) (hk : k ≤ 96) (hbase : base ≤ w.heap.size)
    (h : ∀ v k' W, W.ownsRow base 3 1 (.slice v (m + k) k') (m + k) (ints (zs ++ List.replicate k 0)) → Below base w W → wpList Try.prog ops Q rest (a.put o.dst (.slice v ((m + k : Nat)) k')) W) : wpList Try.prog ops Q (o :: rest) a w := by
  refine wp_append_known hgd s y _ _ ho _ _ hs hy _ (run_append_zeros w _ base m v zs hO k (by omega) hbase) ?_
  rintro v' w' ⟨h1, h2⟩
  obtain ⟨v, k, rfl⟩ := owns_shape_r h1
  exact h v k w' h1 h2

set_option maxRecDepth 100000 in
set_option maxHeartbeats 6400000 in
/-- More pointers than a file has. -/
theorem way_long (a0 : Option Addr) (len0 cap0 : Nat) (z0 : List Int) (v1 : Value) (a2 a3 : Int) (w : World) (h0 : IArg w a0 len0 cap0 z0) (hc : cap0 ≤ 17592186043904) (hl : 96 < len0) (k : Nat) (hk : k ≤ 96) (hk2 : a2 % 97 = (k : Int)) (l2 : 0 ≤ a2) (u2 : a2 ≤ 255) :
    Calls Try.prog 6 #[.slice a0 len0 cap0, v1, .int .u8 a2, .int .u8 a3] w fun e w' => e = .returned (.bool true) ∧ Below w.heap.size w w' := by
  have H0 := Lib.hid h0
  have HC := Lib.hid (Nat.le_trans h0.2.2.2 hc)
  have t2 : Int.tmod a2 97 = (k : Int) := by rw [Int.tmod_eq_emod_of_nonneg l2]; exact hk2
  have i1 : (96 : Int) < (len0 : Int) := by omega
  have i2 : (96 : Int) < (((len0 + k : Nat)) : Int) := by omega
  have HL := Lib.hid hl
  have HK := Lib.hid hk
  clear h0 hc hl hk
  go_enter Try.func6, Try.ntmps6
  go_wp2_with (first
    | (at_builtin; refine wp_first rfl (.tmp 20) (.tmp 21) rfl a0 len0 cap0 z0 w rfl rfl rfl H0.out HC.out ?_; intro x c1 W1 ho hb; have HO1 := Lib.hid ho; have HB1 := Lib.hid hb; clear ho hb)
    | (at_builtin; refine wp_second rfl (.tmp 22) (.tmp 25) rfl _ w.heap.size len0 k z0 rfl rfl HO1.out HC.out HK.out HB1.out.size ?_; intro y c2 W2 ho hb; have HO2 := Lib.hid ho; have HB2 := Lib.hid (HB1.out.trans hb); have HR := ov_cap (l := len0) (k := k) (by have := HL.out; omega) (owns_room ho (by have := HL.out; omega)); clear ho hb)
    | (go_at_call 9; refine (awake11_any _).mono ?_; rintro e w5 ⟨rfl, hb⟩; have HB3 := Lib.hid (HB2.out.trans (hb.mono HB2.out.size)); clear hb))
  go_ret
  exact ⟨rfl, HB3.out⟩

theorem row_iarg {W : World} {base n c : Nat} {v : Option Addr} {zs : List Int} (h : W.ownsRow base 3 1 (.slice v n c) n (ints zs)) (hz : ∀ z ∈ zs, I64 z) (hn : n ≤ 140737488351232) : IArg W v n c zs := by
  obtain ⟨ao, cap, h1, h2, _⟩ := fresh_of_ints h hz hn
  simp only [Value.slice.injEq] at h1
  obtain ⟨rfl, h3, rfl⟩ := h1
  rw [h3]
  exact h2

theorem node_later {W X : World} {f p q r u s t : Int} {T : TypeId} (hb : Below (W.alloc (.cells (nodeCs f p q r u s t).toArray T)).heap.size (W.alloc (.cells (nodeCs f p q r u s t).toArray T)) X) :
    X.cell? ⟨W.heap.size, 0, none⟩ = some (.int .i64 0) ∧ X.cell? ⟨W.heap.size, 1, none⟩ = some (.int .i64 f) ∧ X.cell? ⟨W.heap.size, 2, none⟩ = some (.int .i64 0) ∧ X.cell? ⟨W.heap.size, 3, none⟩ = some (.int .i64 0) ∧ X.cell? ⟨W.heap.size, 4, none⟩ = some (.int .i64 p) ∧ X.cell? ⟨W.heap.size, 5, none⟩ = some (.int .i64 q) ∧ X.cell? ⟨W.heap.size, 6, none⟩ = some (.int .i64 r) ∧ X.cell? ⟨W.heap.size, 7, none⟩ = some (.int .i64 u) ∧ X.cell? ⟨W.heap.size, 8, none⟩ = some (.int .i64 s) ∧ X.cell? ⟨W.heap.size, 9, none⟩ = some (.int .i64 t) ∧ X.cell? ⟨W.heap.size, 10, none⟩ = some (.slice none 0 0) ∧ X.cell? ⟨W.heap.size, 11, none⟩ = some (.int .i64 0) := by
  refine node_cells (fun j v hj => ?_)
  rw [Nat.zero_add]
  refine cell_later hb ?_
  rw [World.cell?_alloc_new]
  simpa using hj

/-- What the other walks lean on. -/
def PlanC (w : World) (len0 : Nat) (z0 : List Int) (a1 : Option Addr) (len1 cap1 : Nat) (f p q r u s t E : Int) (ws : List (Int × List Int)) : Prop :=
  ∀ W ao c L zs, Below w.heap.size w W → IArg W ao L c zs → (∃ n, L = len0 + n ∧ zs = z0 ++ List.replicate n 0 ∧ (L ≤ 96 ∨ n = 0)) →
    Calls Try.prog 11 #[.slice ao L c, .slice a1 len1 cap1] W fun e w' => ∃ v k, e = .returned (.tuple #[nodeV f p q r u s t, .slice v ws.length k, .int .i64 E]) ∧ WIs w' v ws.length ws ∧ Below W.heap.size W w'


set_option maxRecDepth 100000 in
set_option maxHeartbeats 12800000 in
theorem way_fits (a0 a1 : Option Addr) (len0 cap0 len1 cap1 : Nat) (z0 : List Int) (a2 a3 : Int) (w : World) (h0 : IArg w a0 len0 cap0 z0) (hc : cap0 ≤ 17592186043904) (hl : len0 ≤ 96) (k : Nat) (hk : k ≤ 96) (hk2 : a2 % 97 = (k : Int)) (l2 : 0 ≤ a2) (u2 : a2 ≤ 255)
    (m N : Nat) (hm : m < 96) (hm2 : a3 % 96 = (m : Int)) (l3 : 0 ≤ a3) (u3 : a3 ≤ 255) (hN : m < 4 ∧ N = 0 ∨ (4 ≤ m ∧ m < 34) ∧ N = 1 ∨ 34 ≤ m ∧ N = 2) (hov : len0 + k ≤ 96)
    (f p q r u s t E : Int) (ws : List (Int × List Int)) (hws : ws.length ≤ 1000) (hP : PlanC w len0 z0 a1 len1 cap1 f p q r u s t E ws) :
    Calls Try.prog 6 #[.slice a0 len0 cap0, .slice a1 len1 cap1, .int .u8 a2, .int .u8 a3] w fun e w' => e = .returned (.bool true) ∧ Below w.heap.size w w' := by
  have H0 := Lib.hid h0
  have HC := Lib.hid (Nat.le_trans h0.2.2.2 hc)
  have t2 : Int.tmod a2 97 = (k : Int) := by rw [Int.tmod_eq_emod_of_nonneg l2]; exact hk2
  have t3 : Int.tmod a3 96 = (m : Int) := by rw [Int.tmod_eq_emod_of_nonneg l3]; exact hm2
  have i1 : ¬ (96 : Int) < (len0 : Int) := by omega
  have i2 : ¬ (96 : Int) < (((len0 + k : Nat)) : Int) := by omega
  have HL := Lib.hid hl
  have HK := Lib.hid hk
  have HM := Lib.hid hm
  have HOV := Lib.hid hov
  have HC1 : Hid (∀ W, Below w.heap.size w W → Calls Try.prog 11 #[.slice a0 len0 cap0, .slice a1 len1 cap1] W fun e w' => ∃ v k, e = .returned (.tuple #[nodeV f p q r u s t, .slice v ws.length k, .int .i64 E]) ∧ WIs w' v ws.length ws ∧ Below W.heap.size W w') := Lib.hid (fun W hW => hP W a0 cap0 len0 z0 hW (h0.later hW) ⟨0, rfl, by simp, Or.inr rfl⟩)
  have HC2 : Hid (∀ W x c, Below w.heap.size w W → IArg W x (len0 + k) c (z0 ++ List.replicate k 0) → Calls Try.prog 11 #[.slice x (len0 + k) c, .slice a1 len1 cap1] W fun e w' => ∃ v k, e = .returned (.tuple #[nodeV f p q r u s t, .slice v ws.length k, .int .i64 E]) ∧ WIs w' v ws.length ws ∧ Below W.heap.size W w') := Lib.hid (fun W x c hW hA => hP W x c (len0 + k) (z0 ++ List.replicate k 0) hW hA ⟨k, rfl, rfl, Or.inl hov⟩)
  have HZ : Hid (∀ z ∈ z0 ++ List.replicate k 0, I64 z) := Lib.hid (fun z hz => by
    rcases List.mem_append.1 hz with hz | hz
    · exact h0.2.1 z hz
    · rw [List.eq_of_mem_replicate hz]; exact ⟨by decide, by decide⟩)
  have HS := Lib.hid (fun W => sameN_true f p q r u s t W)
  have HW1 := Lib.hid hws
  have HN : Hid (∀ W w0 g, OwnV w0.heap.size w0 g (ints (List.replicate (m + 1) 0)) W → Calls Try.prog 7 #[.slice (some ⟨g, 0, none⟩) (m + 1) (m + 1)] (W.setCell ⟨g, m, none⟩ (.int .i64 100)) fun e w' => e = .returned (.tuple #[.int .i64 (N : Int), .int .i64 0]) ∧ Below w0.heap.size w0 w') := Lib.hid (fun W w0 g hO => by
    obtain ⟨hA, hB⟩ := ones_set hO rfl hm
    refine (Need_any _ _ _ _ _ hA).mono (fun e w' h => ⟨?_, hB.trans (h.2.mono hB.size)⟩)
    obtain ⟨n1, n2⟩ := need_one m hm
    rw [h.1]
    unfold needOut needErr
    rw [n2, if_pos rfl, if_pos rfl, n1]
    rcases hN with ⟨hN, rfl⟩ | ⟨hN, rfl⟩ | ⟨hN, rfl⟩
    · rw [if_neg (by omega), if_neg (by omega)]
    · rw [if_neg (by omega), if_pos (by omega)]
    · rw [if_pos (by omega)])
  have n1 : ((m + 1 : Nat) : Int) - 1 = (m : Int) := by omega
  have n2 : (m : Int) + 1 = ((m + 1 : Nat) : Int) := by omega
  have n3 : (m : Int) < ((m + 1 : Nat) : Int) := by omega
  have n4 : (0 : Int) ≤ ((m + 1 : Nat) : Int) := by omega
  clear h0 hc hl hk hm hov hP hws
  unfold nodeV nodeCs at *
  generalize hn : m + 1 = n at *
  have HMN2 : Hid (n = m + 1) := Lib.hid hn.symm
  clear hn
  rcases hN with ⟨hN, rfl⟩ | ⟨⟨hN, hN2⟩, rfl⟩ | ⟨hN, rfl⟩
  case' inl => have d1 : ¬ (4 : Int) < (n : Int) := by omega
               have d2 : ¬ (34 : Int) < (n : Int) := by omega
  case' inr.inl => have d1 : (4 : Int) < (n : Int) := by omega
                   have d2 : ¬ (34 : Int) < (n : Int) := by omega
  case' inr.inr => have d1 : (4 : Int) < (n : Int) := by omega
                   have d2 : (34 : Int) < (n : Int) := by omega
  all_goals
    go_enter Try.func6, Try.ntmps6
    go_wp2_with (first
      | (at_builtin; refine wp_first rfl (.tmp 20) (.tmp 21) rfl a0 len0 cap0 z0 w rfl rfl rfl H0.out HC.out ?_; intro x c1 W1 ho hb; have HO1 := Lib.hid ho; have HB1 := Lib.hid hb; clear ho hb)
      | (at_builtin; refine wp_second rfl (.tmp 22) (.tmp 25) rfl _ w.heap.size len0 k z0 rfl rfl HO1.out HC.out HK.out HB1.out.size ?_; intro y c2 W2 ho hb; have HA2 := Lib.hid (row_iarg ho HZ.out (by have := HL.out; have := HK.out; omega)); have HB2 := Lib.hid (HB1.out.trans hb); clear ho hb)
      | (go_at_call 11; have gt := HB3; clear gt; refine (HC2.out _ y c2 HB3.out (HA2.out.later HB23.out)).mono ?_; rintro e w4 ⟨v4, k4, rfl, hw4, hb4⟩; have HW4 := Lib.hid hw4; have HB34 := Lib.hid (hb4.alloc hb4.size (.cells (nodeCs f p q r u s t).toArray 32)); have HB4 := Lib.hid (HB3.out.trans (HB34.out.mono HB3.out.size)); clear hw4 hb4)
      | (go_at_call 11; refine (HC1.out _ HB2.out).mono ?_; rintro e w3 ⟨v3, k3, rfl, hw3, hb3⟩; have HW3 := Lib.hid hw3; have HB23 := Lib.hid (hb3.alloc hb3.size (.cells (nodeCs f p q r u s t).toArray 32)); have HB3 := Lib.hid (HB2.out.trans (HB23.out.mono HB2.out.size)); clear hw3 hb3)
      | (refine wp_make_one rfl (.tmp 53) rfl m n HMN2 HM rfl ?_; intro g W5 ho hc5 hf5; have HO5 := Lib.hid ho; clear ho)
      | (go_at_call 7; refine (HN.out _ _ _ HO5.out).mono ?_; rintro e w5 ⟨rfl, hb5⟩; have HB45 := Lib.hid hb5; have HB5 := Lib.hid (HB4.out.trans (hb5.mono HB4.out.size)); clear hb5)
      | (go_at_call 9; refine (awake11_any _).mono ?_; rintro e w6 ⟨rfl, hb6⟩; have HB46 := Lib.hid (HB45.out.trans (hb6.mono HB45.out.size)); have HB36 := Lib.hid (HB34.out.trans (HB46.out.mono HB34.out.size)); have HB6 := Lib.hid (HB5.out.trans (hb6.mono HB5.out.size)); obtain ⟨p0, p1, p2, p3, p4, p5, p6, p7, p8, p9, p10, p11⟩ := node_later (W := w3) (f := f) (p := p) (q := q) (r := r) (u := u) (s := s) (t := t) HB36.out; obtain ⟨q0, q1, q2, q3, q4, q5, q6, q7, q8, q9, q10, q11⟩ := node_later (W := w4) (f := f) (p := p) (q := q) (r := r) (u := u) (s := s) (t := t) HB46.out; clear hb6)
      | (go_at_call 13; refine (HS.out _).mono ?_; rintro e w7 ⟨rfl, hb7⟩; have HB7 := Lib.hid (HB6.out.trans (hb7.mono HB6.out.size)); have HX3 := Lib.hid ((HW3.out.later ((Below.refl _ _).alloc (Nat.le_refl _) (.cells (nodeCs f p q r u s t).toArray 32))).later (HB36.out.trans (hb7.mono HB36.out.size))); have HX4 := Lib.hid ((HW4.out.later ((Below.refl _ _).alloc (Nat.le_refl _) (.cells (nodeCs f p q r u s t).toArray 32))).later (HB46.out.trans (hb7.mono HB46.out.size))); clear hb7)
      | (go_at_call 14; refine (writes_true v3 v4 ws.length k3 k4 ws _ HX3.out HX4.out).mono ?_; rintro e w8 ⟨rfl, hb8⟩; have HB8 := Lib.hid (HB7.out.trans (hb8.mono HB7.out.size)); clear hb8))
    go_ret
    exact ⟨rfl, HB8.out⟩

set_option maxRecDepth 100000 in
set_option maxHeartbeats 12800000 in
theorem way_over (a0 a1 : Option Addr) (len0 cap0 len1 cap1 : Nat) (z0 : List Int) (a2 a3 : Int) (w : World) (h0 : IArg w a0 len0 cap0 z0) (hc : cap0 ≤ 17592186043904) (hl : len0 ≤ 96) (k : Nat) (hk : k ≤ 96) (hk2 : a2 % 97 = (k : Int)) (l2 : 0 ≤ a2) (u2 : a2 ≤ 255)
    (m N : Nat) (hm : m < 96) (hm2 : a3 % 96 = (m : Int)) (l3 : 0 ≤ a3) (u3 : a3 ≤ 255) (hN : m < 4 ∧ N = 0 ∨ (4 ≤ m ∧ m < 34) ∧ N = 1 ∨ 34 ≤ m ∧ N = 2) (hov : 96 < len0 + k)
    (f p q r u s t E : Int) (ws : List (Int × List Int)) (hws : ws.length ≤ 1000) (hP : PlanC w len0 z0 a1 len1 cap1 f p q r u s t E ws) :
    Calls Try.prog 6 #[.slice a0 len0 cap0, .slice a1 len1 cap1, .int .u8 a2, .int .u8 a3] w fun e w' => e = .returned (.bool true) ∧ Below w.heap.size w w' := by
  have H0 := Lib.hid h0
  have HC := Lib.hid (Nat.le_trans h0.2.2.2 hc)
  have t2 : Int.tmod a2 97 = (k : Int) := by rw [Int.tmod_eq_emod_of_nonneg l2]; exact hk2
  have t3 : Int.tmod a3 96 = (m : Int) := by rw [Int.tmod_eq_emod_of_nonneg l3]; exact hm2
  have i1 : ¬ (96 : Int) < (len0 : Int) := by omega
  have i2 : (96 : Int) < (((len0 + k : Nat)) : Int) := by omega
  have HL := Lib.hid hl
  have HK := Lib.hid hk
  have HM := Lib.hid hm
  have HOV := Lib.hid hov
  have HC1 : Hid (∀ W, Below w.heap.size w W → Calls Try.prog 11 #[.slice a0 len0 cap0, .slice a1 len1 cap1] W fun e w' => ∃ v k, e = .returned (.tuple #[nodeV f p q r u s t, .slice v ws.length k, .int .i64 E]) ∧ WIs w' v ws.length ws ∧ Below W.heap.size W w') := Lib.hid (fun W hW => hP W a0 cap0 len0 z0 hW (h0.later hW) ⟨0, rfl, by simp, Or.inr rfl⟩)
  have HC2 : Hid (∀ W x c, Below w.heap.size w W → IArg W x 96 c ((z0 ++ List.replicate k 0).take 96) → Calls Try.prog 11 #[.slice x 96 c, .slice a1 len1 cap1] W fun e w' => ∃ v k, e = .returned (.tuple #[nodeV f p q r u s t, .slice v ws.length k, .int .i64 E]) ∧ WIs w' v ws.length ws ∧ Below W.heap.size W w') := Lib.hid (fun W x c hW hA => hP W x c 96 ((z0 ++ List.replicate k 0).take 96) hW hA ⟨96 - len0, by omega, by rw [List.take_append, List.take_of_length_le (by rw [h0.len]; exact hl), h0.len, List.take_replicate, Nat.min_eq_left (by omega)], Or.inl (Nat.le_refl _)⟩)
  have HZ : Hid (∀ z ∈ z0 ++ List.replicate k 0, I64 z) := Lib.hid (fun z hz => by
    rcases List.mem_append.1 hz with hz | hz
    · exact h0.2.1 z hz
    · rw [List.eq_of_mem_replicate hz]; exact ⟨by decide, by decide⟩)
  have HS := Lib.hid (fun W => sameN_true f p q r u s t W)
  have HW1 := Lib.hid hws
  have HN : Hid (∀ W w0 g, OwnV w0.heap.size w0 g (ints (List.replicate (m + 1) 0)) W → Calls Try.prog 7 #[.slice (some ⟨g, 0, none⟩) (m + 1) (m + 1)] (W.setCell ⟨g, m, none⟩ (.int .i64 100)) fun e w' => e = .returned (.tuple #[.int .i64 (N : Int), .int .i64 0]) ∧ Below w0.heap.size w0 w') := Lib.hid (fun W w0 g hO => by
    obtain ⟨hA, hB⟩ := ones_set hO rfl hm
    refine (Need_any _ _ _ _ _ hA).mono (fun e w' h => ⟨?_, hB.trans (h.2.mono hB.size)⟩)
    obtain ⟨n1, n2⟩ := need_one m hm
    rw [h.1]
    unfold needOut needErr
    rw [n2, if_pos rfl, if_pos rfl, n1]
    rcases hN with ⟨hN, rfl⟩ | ⟨hN, rfl⟩ | ⟨hN, rfl⟩
    · rw [if_neg (by omega), if_neg (by omega)]
    · rw [if_neg (by omega), if_pos (by omega)]
    · rw [if_pos (by omega)])
  have n1 : ((m + 1 : Nat) : Int) - 1 = (m : Int) := by omega
  have n2 : (m : Int) + 1 = ((m + 1 : Nat) : Int) := by omega
  have n3 : (m : Int) < ((m + 1 : Nat) : Int) := by omega
  have n4 : (0 : Int) ≤ ((m + 1 : Nat) : Int) := by omega
  clear h0 hc hl hk hm hov hP hws
  unfold nodeV nodeCs at *
  generalize hn : m + 1 = n at *
  have HMN2 : Hid (n = m + 1) := Lib.hid hn.symm
  clear hn
  rcases hN with ⟨hN, rfl⟩ | ⟨⟨hN, hN2⟩, rfl⟩ | ⟨hN, rfl⟩
  case' inl => have d1 : ¬ (4 : Int) < (n : Int) := by omega
               have d2 : ¬ (34 : Int) < (n : Int) := by omega
  case' inr.inl => have d1 : (4 : Int) < (n : Int) := by omega
                   have d2 : ¬ (34 : Int) < (n : Int) := by omega
  case' inr.inr => have d1 : (4 : Int) < (n : Int) := by omega
                   have d2 : (34 : Int) < (n : Int) := by omega
  all_goals
    go_enter Try.func6, Try.ntmps6
    go_wp2_with (first
      | (at_builtin; refine wp_first rfl (.tmp 20) (.tmp 21) rfl a0 len0 cap0 z0 w rfl rfl rfl H0.out HC.out ?_; intro x c1 W1 ho hb; have HO1 := Lib.hid ho; have HB1 := Lib.hid hb; clear ho hb)
      | (at_builtin; refine wp_second rfl (.tmp 22) (.tmp 25) rfl _ w.heap.size len0 k z0 rfl rfl HO1.out HC.out HK.out HB1.out.size ?_; intro y c2 W2 ho hb; have HA2 := Lib.hid (row_iarg ho HZ.out (by have := HL.out; have := HK.out; omega)); have HB2 := Lib.hid (HB1.out.trans hb); have HR := ov_cap (l := len0) (k := k) HOV.out (owns_room ho (by have := HOV.out; omega)); clear ho hb)
      | (go_at_call 11; have gt := HB3; clear gt; refine (HC2.out _ y c2 HB3.out ((HA2.out.takeAny (k := 96) (by have := HOV.out; omega)).later HB23.out)).mono ?_; rintro e w4 ⟨v4, k4, rfl, hw4, hb4⟩; have HW4 := Lib.hid hw4; have HB34 := Lib.hid (hb4.alloc hb4.size (.cells (nodeCs f p q r u s t).toArray 32)); have HB4 := Lib.hid (HB3.out.trans (HB34.out.mono HB3.out.size)); clear hw4 hb4)
      | (go_at_call 11; refine (HC1.out _ HB2.out).mono ?_; rintro e w3 ⟨v3, k3, rfl, hw3, hb3⟩; have HW3 := Lib.hid hw3; have HB23 := Lib.hid (hb3.alloc hb3.size (.cells (nodeCs f p q r u s t).toArray 32)); have HB3 := Lib.hid (HB2.out.trans (HB23.out.mono HB2.out.size)); clear hw3 hb3)
      | (refine wp_make_one rfl (.tmp 53) rfl m n HMN2 HM rfl ?_; intro g W5 ho hc5 hf5; have HO5 := Lib.hid ho; clear ho)
      | (go_at_call 7; refine (HN.out _ _ _ HO5.out).mono ?_; rintro e w5 ⟨rfl, hb5⟩; have HB45 := Lib.hid hb5; have HB5 := Lib.hid (HB4.out.trans (hb5.mono HB4.out.size)); clear hb5)
      | (go_at_call 9; refine (awake11_any _).mono ?_; rintro e w6 ⟨rfl, hb6⟩; have HB46 := Lib.hid (HB45.out.trans (hb6.mono HB45.out.size)); have HB36 := Lib.hid (HB34.out.trans (HB46.out.mono HB34.out.size)); have HB6 := Lib.hid (HB5.out.trans (hb6.mono HB5.out.size)); obtain ⟨p0, p1, p2, p3, p4, p5, p6, p7, p8, p9, p10, p11⟩ := node_later (W := w3) (f := f) (p := p) (q := q) (r := r) (u := u) (s := s) (t := t) HB36.out; obtain ⟨q0, q1, q2, q3, q4, q5, q6, q7, q8, q9, q10, q11⟩ := node_later (W := w4) (f := f) (p := p) (q := q) (r := r) (u := u) (s := s) (t := t) HB46.out; clear hb6)
      | (go_at_call 13; refine (HS.out _).mono ?_; rintro e w7 ⟨rfl, hb7⟩; have HB7 := Lib.hid (HB6.out.trans (hb7.mono HB6.out.size)); have HX3 := Lib.hid ((HW3.out.later ((Below.refl _ _).alloc (Nat.le_refl _) (.cells (nodeCs f p q r u s t).toArray 32))).later (HB36.out.trans (hb7.mono HB36.out.size))); have HX4 := Lib.hid ((HW4.out.later ((Below.refl _ _).alloc (Nat.le_refl _) (.cells (nodeCs f p q r u s t).toArray 32))).later (HB46.out.trans (hb7.mono HB46.out.size))); clear hb7)
      | (go_at_call 14; refine (writes_true v3 v4 ws.length k3 k4 ws _ HX3.out HX4.out).mono ?_; rintro e w8 ⟨rfl, hb8⟩; have HB8 := Lib.hid (HB7.out.trans (hb8.mono HB7.out.size)); clear hb8))
    go_ret
    exact ⟨rfl, HB8.out⟩
set_option maxRecDepth 100000 in
set_option maxHeartbeats 6400000 in
theorem walk (a0 : Option Addr) (len0 cap0 : Nat) (z0 : List Int) (a1 : Option Addr) (len1 cap1 : Nat) (z1 : List Int) (a2 : Int) (a3 : Int) (w : World) (w0 : IArg w a0 len0 cap0 z0 ∧ cap0 ≤ 17592186043904) (w1 : IArg w a1 len1 cap1 z1 ∧ cap1 ≤ 17592186043904) (w2 : (Lit.int .u8 a2).wf = true) (w3 : (Lit.int .u8 a3).wf = true) :
    Calls Try.prog 6 #[.slice a0 len0 cap0, .slice a1 len1 cap1, .int .u8 a2, .int .u8 a3] w fun e w' => e = .returned (.bool true) ∧ Below w.heap.size w w' := by
  obtain ⟨hA0, hc0⟩ := w0
  obtain ⟨hA1, hc1⟩ := w1
  obtain ⟨l2, u2⟩ := wf_u8 w2
  obtain ⟨l3, u3⟩ := wf_u8 w3
  obtain ⟨k, hk⟩ : ∃ k : Nat, a2 % 97 = (k : Int) := ⟨(a2 % 97).toNat, by omega⟩
  obtain ⟨m, hm⟩ : ∃ m : Nat, a3 % 96 = (m : Int) := ⟨(a3 % 96).toNat, by omega⟩
  by_cases hl : 96 < len0
  · exact way_long a0 len0 cap0 z0 _ a2 a3 w hA0 hc0 hl k (by omega) hk l2 u2
  · obtain ⟨f, p, q, r, u, s, t, E, ws, hws, hP0⟩ := plans_alike hA0 hA1
    have hP : PlanC w len0 z0 a1 len1 cap1 f p q r u s t E ws := by
      rintro W ao c L zs hW hA ⟨n, rfl, rfl, hn⟩
      exact hP0 W ao c n hW hA hn
    obtain ⟨N, hN⟩ : ∃ N : Nat, m < 4 ∧ N = 0 ∨ (4 ≤ m ∧ m < 34) ∧ N = 1 ∨ 34 ≤ m ∧ N = 2 := by
      by_cases h4 : m < 4
      · exact ⟨0, Or.inl ⟨h4, rfl⟩⟩
      · by_cases h34 : m < 34
        · exact ⟨1, Or.inr (Or.inl ⟨⟨by omega, h34⟩, rfl⟩)⟩
        · exact ⟨2, Or.inr (Or.inr ⟨by omega, rfl⟩)⟩
    by_cases hov : 96 < len0 + k
    · exact way_over a0 a1 len0 cap0 len1 cap1 z0 a2 a3 w hA0 hc0 (by omega) k (by omega) hk l2 u2 m N (by omega) hm l3 u3 hN hov f p q r u s t E ws hws hP
    · exact way_fits a0 a1 len0 cap0 len1 cap1 z0 a2 a3 w hA0 hc0 (by omega) k (by omega) hk l2 u2 m N (by omega) hm l3 u3 hN (by omega) f p q r u s t E ws hws hP

/-! ### The law's step -/
set_option maxRecDepth 100000 in
theorem lifted (os : Os) (started : os.Started) (H : Type) (enc : TypeId × Value → H) :
    ReturnsInHanded {} Try.checked os 6 .any (Rows.treeZerosSpec.pre6 enc Try.prog Try.f6 Rows.treeZerosRow.domain false) (Rows.treeZerosSpec.post enc Try.prog Try.f6 false true false false) := by
  refine returnsInHanded_of_change_sized (C := Try.checked) own started (by kernel_rfl) Try.func6
    (ChangeSpec.witness6 (enc := enc) (C := Try.checked) false ⟨#[], #[.slice none 0 0, .slice none 0 0, .int .u8 0, .int .u8 0], []⟩ 8 (by kernel_rfl) (by kernel_rfl) (by kernel_rfl) (by kernel_rfl)) ?_
  intro W base args ds gs before hval0 hW hcnd hsz0 _
  have hsz : (DataW.weightsEach Try.prog (Try.f6.params.toList ++ Rows.treeZerosSpec.plain.varTypes Try.prog) (ds ++ gs)).all (· ≤ reachBytes) = true := hsz0
  clear hsz0
  have hval : ∀ (j : Nat) t v, Try.f6.params[j]? = some t → args[j]? = some v → Value.okWide Try.prog W .any base t v := hval0
  have hW' := hW
  obtain ⟨p, q, hA0, hV, rfl, hfz, hnd⟩ := hW
  have hA : DataW.TrodAll enc Try.prog W 0 (fun _ => true) true Try.f6.params.toList args.toList ds p := hA0
  rw [Try.params6] at hA hval hsz
  obtain ⟨v0, vs0, d0, ds0, p0, q0, hargs, rfl, rfl, h0, r0⟩ := trodAll_cons hA
  obtain ⟨v1, vs1, d1, ds1, p1, q1, rfl, rfl, rfl, h1, r1⟩ := trodAll_cons r0
  obtain ⟨v2, vs2, d2, ds2, p2, q2, rfl, rfl, rfl, h2, r2⟩ := trodAll_cons r1
  obtain ⟨v3, vs3, d3, ds3, p3, q3, rfl, rfl, rfl, h3, r3⟩ := trodAll_cons r2
  obtain ⟨rfl, rfl, rfl⟩ := trodAll_nil r3
  obtain rfl : args = #[v0, v1, v2, v3] := by cases args; simp_all
  obtain ⟨rfl, rfl⟩ := trodVars_none hV
  have k0 := h0
  have lt0 : ∀ x ∈ p0, x.block < W.heap.size := by obtain ⟨m, hm⟩ := k0; exact DataW.trod_lt m _ _ _ hm
  obtain ⟨a0, len0, cap0, rfl⟩ := okWide_slice Try.underlying22 (hval 0 22 v0 rfl rfl)
  obtain ⟨z0, w0⟩ := open_nums_arg k0 (weights_ofT hsz (j := 0) rfl rfl)
  have k1 := h1
  have lt1 : ∀ x ∈ p1, x.block < W.heap.size := by obtain ⟨m, hm⟩ := k1; exact DataW.trod_lt m _ _ _ hm
  obtain ⟨a1, len1, cap1, rfl⟩ := okWide_slice Try.underlying22 (hval 1 22 v1 rfl rfl)
  obtain ⟨z1, w1⟩ := open_nums_arg k1 (weights_ofT hsz (j := 1) rfl rfl)
  have k2 := h2
  have lt2 : ∀ x ∈ p2, x.block < W.heap.size := by obtain ⟨m, hm⟩ := k2; exact DataW.trod_lt m _ _ _ hm
  obtain ⟨a2, rfl, _, _, w2⟩ := open_int Try.underlying5 (hval 2 5 v2 rfl rfl) h2
  have k3 := h3
  have lt3 : ∀ x ∈ p3, x.block < W.heap.size := by obtain ⟨m, hm⟩ := k3; exact DataW.trod_lt m _ _ _ hm
  obtain ⟨a3, rfl, _, _, w3⟩ := open_int Try.underlying5 (hval 3 5 v3 rfl rfl) h3
  clear hA0 hval0
  refine (walk a0 len0 cap0 z0 a1 len1 cap1 z1 a2 a3 W w0 w1 w2 w3).mono fun e W' ⟨he, bel⟩ => ?_
  subst he
  exact ⟨_, rfl, _, _, _, [], _, [], hW', trodAll_mk1 (shut_bool Try.underlying4 _), (trodAll_cons_mk (Below.trod laidOut (by kernel_rfl) (of_decide_eq_true (by kernel_rfl)) k0 bel lt0) (trodAll_cons_mk (Below.trod laidOut (by kernel_rfl) (of_decide_eq_true (by kernel_rfl)) k1 bel lt1) (trodAll_cons_mk (Below.trod laidOut (by kernel_rfl) (of_decide_eq_true (by kernel_rfl)) k2 bel lt2) (trodAll_cons_mk (Below.trod laidOut (by kernel_rfl) (of_decide_eq_true (by kernel_rfl)) k3 bel lt3) trodAll_mk0)))), rfl, bel.frame _, fun h => by cases h⟩

theorem over : Rows.treeZerosRow.holds Try.pinned (OpenSpec.ofChange Rows.treeZerosSpec) :=
  OpenClaim.holds_of_wide 6 Try.f6 rfl rfl rfl rfl rfl rfl rfl ⟨rfl, rfl, rfl, rfl, rfl⟩ rfl rfl rfl rfl rfl (by kernel_rfl) Try.func6 (by kernel_rfl)
    (of_decide_eq_true (by kernel_rfl)) (by unfold Func.isWrapper; first | (rw [if_pos (by decide +kernel)]; kernel_rfl) | (rw [if_neg (by decide +kernel)]; exact ⟨rfl, rfl⟩))
    (fun os started H enc _ => lifted os started H enc)

/-- The statement. -/
theorem proved : Rows.TreeZerosSaid := over
end Go.Proofs.Ytdbkhhmadefccaa.treeZeros
