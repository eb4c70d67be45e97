/-
  Proved here: two disks beside each other, the landed one and the document's own, through any one call of either.
  The conditions stand at each theorem.
-/
import Derived.Test.YtinlbmlgfneolaaRefPut
import Derived.Test.YtinlbmlgfneolaaActs
import Derived.Test.YtinlbmlgfneolaaAwake07
namespace Go.Proofs.Ytinlbmlgfneolaa
open Go.RowKit
set_option linter.unusedVariables false

/-- The landed disk lies at a and is sd, the document's own at b and is sr; they share no block, and have none of the blocks that were there ahead of the call; the blocks X are as in w1, and neither's. -/
def Two (X : Nat → Prop) (w1 w0 : World) (a b : Addr) (sd sr : DM) (w : World) : Prop :=
  ∃ F G, DI w a F sd ∧ RI w b G sr ∧ (∀ k, F k → w0.heap.size ≤ k) ∧ (∀ k, G k → w0.heap.size ≤ k) ∧ (∀ k, F k → ¬ G k) ∧ Below w0.heap.size w0 w ∧ ∀ k, X k → k < w.heap.size ∧ ¬ F k ∧ ¬ G k ∧ w.heap[k]? = w1.heap[k]?

variable {X : Nat → Prop} {w1 w0 w w' : World} {a b : Addr} {sd sr : DM}

theorem Two.below (h : Two X w1 w0 a b sd sr w) : Below w0.heap.size w0 w := by
  obtain ⟨F, G, _, _, _, _, _, h, _⟩ := h
  exact h

theorem Two.cell {g j : Nat} (h : Two X w1 w0 a b sd sr w) (hg : X g) : w.cell? ⟨g, j, none⟩ = w1.cell? ⟨g, j, none⟩ := by
  obtain ⟨F, G, _, _, _, _, _, _, hx⟩ := h
  exact cell_of_heap (p := ⟨g, j, none⟩) (hx g hg).2.2.2

theorem Two.mark (h : Two X w1 w0 a b sd sr w) (hb : Below w.heap.size w w') {g : Nat} (h1 : w.heap.size ≤ g) (h2 : g < w'.heap.size) : Two (fun k => k = g) w' w0 a b sd sr w' := by
  obtain ⟨F, G, h3, h4, h5, h6, h7, h8, _⟩ := h
  refine ⟨F, G, di_kept h3 (fun k hk => hb.block k (di_lt h3 k hk)), ri_kept h4 (fun k hk => hb.block k (ri_lt h4 k hk)), h5, h6, h7, h8.trans (hb.mono h8.size), fun k hk => ?_⟩
  subst hk
  exact ⟨h2, fun hf => by have := di_lt h3 _ hf; omega, fun hf => by have := ri_lt h4 _ hf; omega, rfl⟩

theorem Two.forget (h : Two X w1 w0 a b sd sr w) : Two (fun _ => False) w0 w0 a b sd sr w := by
  obtain ⟨F, G, h1, h2, h3, h4, h5, h6, _⟩ := h
  exact ⟨F, G, h1, h2, h3, h4, h5, h6, fun k hk => hk.elim⟩

theorem Two.later (h : Two X w1 w0 a b sd sr w) (hb : Below w.heap.size w w') : Two X w1 w0 a b sd sr w' := by
  obtain ⟨F, G, h1, h2, h3, h4, h5, h6, hx⟩ := h
  exact ⟨F, G, di_kept h1 (fun k hk => hb.block k (di_lt h1 k hk)), ri_kept h2 (fun k hk => hb.block k (ri_lt h2 k hk)), h3, h4, h5, h6.trans (hb.mono h6.size), fun k hk => ⟨Nat.lt_of_lt_of_le (hx k hk).1 hb.size, (hx k hk).2.1, (hx k hk).2.2.1, (hb.block k (hx k hk).1).trans (hx k hk).2.2.2⟩⟩

/-- A call on the landed disk. -/
theorem Two.grewD {F F' G : Nat → Prop} {sd' : DM} (h1 : DI w a F sd) (h2 : RI w b G sr) (h3 : ∀ k, F k → w0.heap.size ≤ k) (h4 : ∀ k, G k → w0.heap.size ≤ k) (h5 : ∀ k, F k → ¬ G k) (h6 : Below w0.heap.size w0 w) (hx : ∀ k, X k → k < w.heap.size ∧ ¬ F k ∧ ¬ G k ∧ w.heap[k]? = w1.heap[k]?) (hd : DI w' a F' sd') (hG : Grew F F' w w') : Two X w1 w0 a b sd' sr w' := by
  refine ⟨F', G, hd, ri_kept h2 (fun k hk => hG.2.2.2.2.1 k (ri_lt h2 k hk) (fun hf => h5 k hf hk)), fun k hk => ?_, h4, fun k hk hg => ?_, hG.below h6 h6.size h3, fun k hk => ⟨Nat.lt_of_lt_of_le (hx k hk).1 hG.2.2.2.1, fun hf => (hG.2.2.2.2.2 k hf).elim (hx k hk).2.1 (fun e => by have := (hx k hk).1; omega), (hx k hk).2.2.1, (hG.2.2.2.2.1 k (hx k hk).1 (hx k hk).2.1).trans (hx k hk).2.2.2⟩⟩
  · rcases hG.2.2.2.2.2 k hk with h | h
    · exact h3 k h
    · exact Nat.le_trans h6.size h
  · rcases hG.2.2.2.2.2 k hk with h | h
    · exact h5 k h hg
    · have := ri_lt h2 k hg; omega

/-- A call on the document's disk. -/
theorem Two.grewR {F G G' : Nat → Prop} {sr' : DM} (h1 : DI w a F sd) (h2 : RI w b G sr) (h3 : ∀ k, F k → w0.heap.size ≤ k) (h4 : ∀ k, G k → w0.heap.size ≤ k) (h5 : ∀ k, F k → ¬ G k) (h6 : Below w0.heap.size w0 w) (hx : ∀ k, X k → k < w.heap.size ∧ ¬ F k ∧ ¬ G k ∧ w.heap[k]? = w1.heap[k]?) (hr : RI w' b G' sr') (hG : Grew G G' w w') : Two X w1 w0 a b sd sr' w' := by
  refine ⟨F, G', di_kept h1 (fun k hk => hG.2.2.2.2.1 k (di_lt h1 k hk) (fun hf => h5 k hk hf)), hr, h3, fun k hk => ?_, fun k hk hg => ?_, hG.below h6 h6.size h4, fun k hk => ⟨Nat.lt_of_lt_of_le (hx k hk).1 hG.2.2.2.1, (hx k hk).2.1, fun hf => (hG.2.2.2.2.2 k hf).elim (hx k hk).2.2.1 (fun e => by have := (hx k hk).1; omega), (hG.2.2.2.2.1 k (hx k hk).1 (hx k hk).2.2.1).trans (hx k hk).2.2.2⟩⟩
  · rcases hG.2.2.2.2.2 k hk with h | h
    · exact h4 k h
    · exact Nat.le_trans h6.size h
  · rcases hG.2.2.2.2.2 k hg with h | h
    · exact h5 k hk h
    · have := di_lt h1 k hk; omega

theorem two_put {lo : Option Addr} {ll lc : Nat} {ws : List (Int × List Int)} (h : Two X w1 w0 a b sd sr w) (hL : ListIs w (fun k => k < w0.heap.size) lo ll ws) (hf : ∀ k, k < sd.n → (sd.hist k).length + ws.length ≤ 1099511627776) :
    Calls Try.prog 11 #[.pointer (some a), .slice lo ll lc] w fun e w' => e = .returned (.int .i64 (putRes sd ws).2) ∧ Two X w1 w0 a b (putRes sd ws).1 sr w' := by
  obtain ⟨F, G, h1, h2, h3, h4, h5, h6, hx⟩ := h
  refine (di_put _ lo ll lc ws h1 hL (fun k hk hg => by have := h3 k hk; omega) hf).mono ?_
  rintro e w' ⟨F', rfl, hd, hG⟩
  exact ⟨rfl, Two.grewD h1 h2 h3 h4 h5 h6 hx hd hG⟩

theorem two_rput {lo : Option Addr} {ll lc : Nat} {ws : List (Int × List Int)} (h : Two X w1 w0 a b sd sr w) (hL : ListIs w (fun k => k < w0.heap.size) lo ll ws) (hf : ∀ k, k < sr.n → (sr.hist k).length + ws.length ≤ 1099511627776) :
    Calls Try.prog 12 #[.pointer (some b), .slice lo ll lc] w fun e w' => e = .returned (.int .i64 (putRes sr ws).2) ∧ Two X w1 w0 a b sd (putRes sr ws).1 w' := by
  obtain ⟨F, G, h1, h2, h3, h4, h5, h6, hx⟩ := h
  refine (ri_put _ lo ll lc ws h2 hL (fun k hk hg => by have := h4 k hk; omega) hf).mono ?_
  rintro e w' ⟨F', rfl, hd, hG⟩
  exact ⟨rfl, Two.grewR h1 h2 h3 h4 h5 h6 hx hd hG⟩

theorem two_get (n : Int) (h : Two X w1 w0 a b sd sr w) (hn : i64 n) : Calls Try.prog 13 #[.pointer (some a), .int .i64 n] w fun e w' => ∃ v, e = .returned (.tuple #[v, .int .i64 (getErr sd n)]) ∧ Fresh w' w.heap.size v (getOut sd n) ∧ Two X w1 w0 a b sd sr w' := by
  have h' := h
  obtain ⟨F, G, h1, h2, h3, h4, h5, h6, hx⟩ := h
  refine (di_get n h1 hn).mono ?_
  rintro e w' ⟨v, rfl, hf, hb⟩
  exact ⟨v, rfl, hf, h'.later hb⟩

theorem two_rget (n : Int) (h : Two X w1 w0 a b sd sr w) (hn : i64 n) : Calls Try.prog 14 #[.pointer (some b), .int .i64 n] w fun e w' => e = .returned (.tuple #[.string (str (getOut sr n)), .int .i64 (getErr sr n)]) ∧ Two X w1 w0 a b sd sr w' := by
  have h' := h
  obtain ⟨F, G, h1, h2, h3, h4, h5, h6, hx⟩ := h
  refine (ri_get n h2 hn).mono ?_
  rintro e w' ⟨rfl, hb⟩
  exact ⟨rfl, h'.later hb⟩

theorem two_barrier (h : Two X w1 w0 a b sd sr w) : Calls Try.prog 15 #[.pointer (some a)] w fun e w' => e = .returned (.int .i64 (barRes sd).2) ∧ Two X w1 w0 a b (barRes sd).1 sr w' := by
  obtain ⟨F, G, h1, h2, h3, h4, h5, h6, hx⟩ := h
  refine (di_barrier h1).mono ?_
  rintro e w' ⟨F', rfl, hd, hG⟩
  exact ⟨rfl, Two.grewD h1 h2 h3 h4 h5 h6 hx hd hG⟩

theorem two_rbarrier (h : Two X w1 w0 a b sd sr w) : Calls Try.prog 16 #[.pointer (some b)] w fun e w' => e = .returned (.int .i64 (barRes sr).2) ∧ Two X w1 w0 a b sd (barRes sr).1 w' := by
  obtain ⟨F, G, h1, h2, h3, h4, h5, h6, hx⟩ := h
  refine (ri_barrier h2).mono ?_
  rintro e w' ⟨F', rfl, hd, hG⟩
  exact ⟨rfl, Two.grewR h1 h2 h3 h4 h5 h6 hx hd hG⟩

theorem two_fail (n : Int) (h : Two X w1 w0 a b sd sr w) (hn : i64 n) : Calls Try.prog 17 #[.pointer (some a), .int .i64 n] w fun e w' => e = .returned (.tuple #[]) ∧ Two X w1 w0 a b (failed sd n) sr w' := by
  obtain ⟨F, G, h1, h2, h3, h4, h5, h6, hx⟩ := h
  refine (di_fail n h1 hn).mono ?_
  rintro e w' ⟨F', rfl, hd, hG⟩
  exact ⟨rfl, Two.grewD h1 h2 h3 h4 h5 h6 hx hd hG⟩

/-- The document's disk is told when the power goes. -/
theorem two_rfail (n : Int) (h : Two X w1 w0 a b sd sr w) (hn : i64 n) : ∃ d l, b = ⟨d, 0, none⟩ ∧ w.cell? ⟨d, 2, none⟩ = some (.int .i64 l) ∧ w.frozen? ⟨d, 2, none⟩ = false ∧ Two X w1 w0 a b sd (failed sr n) (w.setCell ⟨d, 2, none⟩ (.int .i64 n)) := by
  obtain ⟨F, G, h1, h2, h3, h4, h5, h6, hx⟩ := h
  obtain ⟨d, gl, go, cl, co, ao, cp, rfl, hr, rfl⟩ := h2
  obtain ⟨l, c2, _, _⟩ := hr.pow
  refine ⟨d, l, rfl, c2, hr.frd 2, ?_⟩
  refine Two.grewR h1 ⟨d, gl, go, cl, co, ao, cp, rfl, hr, rfl⟩ h3 h4 h5 h6 hx ⟨d, gl, go, cl, co, ao, cp, rfl, hr.power (fun k hk => Below.heap_setCell _ _ _ _ hk) (failed sr n) rfl rfl ?_ ?_ ⟨n, World.cell?_setCell_same _ _ _ c2, hn, ?_⟩ ?_ (fun j => by simp only [World.frozen?_setCell]; exact hr.frd j), rfl⟩ (Grew.setCell (RFoot d gl go ao sr.n) w (p := ⟨d, 2, none⟩) (Or.inl rfl) _)
  · rw [World.cell?_setCell_other (h := ne_off (by decide))]
  · rw [World.cell?_setCell_other (h := ne_off (by decide))]
  · show (n < 0 ∧ (if n < 0 then -1 else n) = -1) ∨ (0 ≤ n ∧ (if n < 0 then -1 else n) = n)
    by_cases hn0 : n < 0
    · rw [if_pos hn0]; exact Or.inl ⟨hn0, rfl⟩
    · rw [if_neg hn0]; exact Or.inr ⟨by omega, rfl⟩
  · rw [World.cell?_setCell_other (h := ne_off (by decide))]; exact hr.off

theorem two_restart {ko : Option Addr} {kl kc : Nat} {ks : List Int} (h : Two X w1 w0 a b sd sr w) (hN : NumsAre w (fun k => k < w0.heap.size) ko kl ks) :
    Calls Try.prog 18 #[.pointer (some a), .slice ko kl kc] w fun e w' => e = .returned (.tuple #[]) ∧ Two X w1 w0 a b (restarted sd ks) sr w' := by
  obtain ⟨F, G, h1, h2, h3, h4, h5, h6, hx⟩ := h
  refine (di_restart _ ko kl kc ks h1 hN (fun k hk hg => by have := h3 k hk; omega)).mono ?_
  rintro e w' ⟨F', rfl, hd, hG⟩
  exact ⟨rfl, Two.grewD h1 h2 h3 h4 h5 h6 hx hd hG⟩

theorem two_rrestart {ko : Option Addr} {kl kc : Nat} {ks : List Int} (h : Two X w1 w0 a b sd sr w) (hN : NumsAre w (fun k => k < w0.heap.size) ko kl ks) :
    Calls Try.prog 19 #[.pointer (some b), .slice ko kl kc] w fun e w' => e = .returned (.tuple #[]) ∧ Two X w1 w0 a b sd (restarted sr ks) w' := by
  obtain ⟨F, G, h1, h2, h3, h4, h5, h6, hx⟩ := h
  refine (ri_restart _ ko kl kc ks h2 hN (fun k hk hg => by have := h4 k hk; omega)).mono ?_
  rintro e w' ⟨F', rfl, hd, hG⟩
  exact ⟨rfl, Two.grewR h1 h2 h3 h4 h5 h6 hx hd hG⟩

theorem two_open (n : Int) (h : Two X w1 w0 a b sd sr w) (hn : i64 n) : Calls Try.prog 20 #[.pointer (some a), .int .i64 n] w fun e w' => e = .returned (.int .i64 (openOf sd n)) ∧ w = w' := by
  obtain ⟨F, G, h1, h2, h3, h4, h5, h6, hx⟩ := h
  obtain ⟨d, g, ao, cp, rfl, h, rfl⟩ := h1
  refine (open_d n h.sl hn (openOf sd n) (fun h0 h1 => ?_) (fun hb => by unfold openOf; rw [if_neg hb]))
  have hc := (h.cells n.toNat (by omega)).opn
  rw [tail_len] at hc
  refine ⟨ao n.toNat, cp n.toNat, ?_⟩
  unfold openOf
  rw [if_pos ⟨h0, h1⟩, Nat.mul_comm]
  exact hc

theorem two_blocks (h : Two X w1 w0 a b sd sr w) : Calls Try.prog 21 #[.pointer (some a)] w fun e w' => e = .returned (.int .i64 sd.n) ∧ w = w' := by
  obtain ⟨F, G, h1, h2, h3, h4, h5, h6, hx⟩ := h
  obtain ⟨d, g, ao, cp, rfl, h, rfl⟩ := h1
  exact blocks_d h.sl

/-- How many writes of a block the document's disk has open. -/
theorem two_ropen (j : Nat) (h : Two X w1 w0 a b sd sr w) (hj : j < sr.n) : ∃ d go co ao c, b = ⟨d, 0, none⟩ ∧ w.cell? ⟨d, 1, none⟩ = some (.slice (some ⟨go, 0, none⟩) sr.n co) ∧ w.cell? ⟨go, j, none⟩ = some (.slice ao (openOf sr j) c) := by
  obtain ⟨F, G, h1, h2, h3, h4, h5, h6, hx⟩ := h
  obtain ⟨d, gl, go, cl, co, ao, cp, rfl, hr, rfl⟩ := h2
  have hc := (hr.cells j hj).opn
  rw [tail_len] at hc
  refine ⟨d, go, co, ao j, cp j, rfl, hr.so, ?_⟩
  unfold openOf
  rw [if_pos ⟨by omega, by omega⟩, Int.toNat_natCast]
  exact hc

theorem nums_later {w wx : World} {G : Nat → Prop} {a : Option Addr} {len : Nat} {ks : List Int} (h : NumsAre w G a len ks) (hb : Below w.heap.size w wx) : NumsAre wx G a len ks := by
  refine ⟨h.1, ?_⟩
  rcases h.2 with h0 | ⟨b, off, rfl, hg, hc⟩
  · exact Or.inl h0
  · exact Or.inr ⟨b, off, rfl, hg, fun j x hj => ⟨cell_later hb (hc j x hj).1, (hc j x hj).2⟩⟩

theorem hist_put {L M q i : Nat} (h : L ≤ 1 + i * 1048576) (hq : q ≤ 1048576) (hM : M ≤ L + q) : M ≤ 1 + (i + 1) * 1048576 := by omega
theorem hist_up {L i : Nat} (h : L ≤ 1 + i * 1048576) : L ≤ 1 + (i + 1) * 1048576 := hist_put h (Nat.zero_le _) (Nat.le_refl L)
theorem hist_one {L i : Nat} (h : L = 1) : L ≤ 1 + (i + 1) * 1048576 := by rw [h]; exact Nat.le_add_right _ _
theorem hist_few {L q i : Nat} (h : L ≤ 1 + i * 1048576) (hq : q ≤ 1048576) (hi : i ≤ 100) : L + q ≤ 1099511627776 := by omega

/-- Both disks are one in plain words, behind i acts. -/
def Play (w0 : World) (a b : Addr) (n i : Nat) (w : World) : Prop := ∃ s, Two (fun _ => False) w0 w0 a b s s w ∧ s.n = n ∧ ∀ k, (s.hist k).length ≤ 1 + i * 1048576

theorem put_n (s : DM) (ws : List (Int × List Int)) : (putRes s ws).1.n = s.n ∧ ∀ k, ((putRes s ws).1.hist k).length ≤ (s.hist k).length + ws.length := by
  have hn : ∀ (ws : List (Int × List Int)) (s : DM), (putAll s ws).1.n = s.n := by
    intro ws
    induction ws with
    | nil => intro s; rfl
    | cons p r ih =>
      intro s
      obtain ⟨x, d⟩ := p
      unfold putAll
      by_cases h0 : s.left = 0
      · rw [if_pos h0]; rfl
      · rw [if_neg h0, ih]; rfl
  unfold putRes
  by_cases h1 : s.off = true
  · rw [if_pos h1]; exact ⟨rfl, fun k => Nat.le_add_right _ _⟩
  · rw [if_neg h1]
    by_cases h2 : badLen ws = true
    · rw [if_pos h2]; exact ⟨rfl, fun k => Nat.le_add_right _ _⟩
    · rw [if_neg h2]
      by_cases h3 : badAt s.n ws = true
      · rw [if_pos h3]; exact ⟨rfl, fun k => Nat.le_add_right _ _⟩
      · rw [if_neg h3]; exact ⟨hn ws s, putAll_hist ws s⟩

theorem bar_n (s : DM) : (barRes s).1.n = s.n ∧ ∀ k, ((barRes s).1.hist k).length ≤ (s.hist k).length + 1 := by
  unfold barRes
  by_cases h1 : s.off = true
  · rw [if_pos h1]; exact ⟨rfl, fun k => Nat.le_succ _⟩
  · rw [if_neg h1]
    by_cases h2 : s.left = 0
    · rw [if_pos h2]; exact ⟨rfl, fun k => Nat.le_succ _⟩
    · rw [if_neg h2]; exact ⟨rfl, fun k => by show 1 ≤ _; omega⟩

end Go.Proofs.Ytinlbmlgfneolaa
