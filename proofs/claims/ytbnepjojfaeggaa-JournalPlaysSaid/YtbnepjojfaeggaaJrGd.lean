/-
  Proved here: images of a disk with a log: at whose head nothing is found, or one whole transaction; how they come out of torn writes: in plain words. Nothing is proved of the program here. Proved here: the landed journal in plain words keeps what the laws of layer 16 ask: JournalGood. Nothing is proved of the program here.
-/
import Derived.Test.YtbnepjojfaeggaaJrM
import Derived.Test.YtbnepjojfaeggaaJrnGood
namespace Go.Proofs.Ytbnepjojfaeggaa
open Go.RowKit
set_option linter.unusedVariables false
set_option linter.unusedSimpArgs false

/-! ### Sizes -/
theorem putRes_hist (s : DM) (g : List (Int × List Int)) (k : Nat) : ((putRes s g).1.hist k).length ≤ (s.hist k).length + g.length := by
  unfold putRes
  split
  · exact Nat.le_add_right _ _
  · split
    · exact Nat.le_add_right _ _
    · split
      · exact Nat.le_add_right _ _
      · exact putAll_hist _ _ _
theorem bar_hist {s : DM} {k B : Nat} (h : (s.hist k).length ≤ B) (h1 : 1 ≤ B) : ((barRes s).1.hist k).length ≤ B ∧ ((barRes s).2 = 0 → ((barRes s).1.hist k).length ≤ 1) := by
  unfold barRes
  split
  · exact ⟨h, fun e => by cases e⟩
  · split
    · exact ⟨h, fun e => by cases e⟩
    · exact ⟨h1, fun _ => Nat.le_refl _⟩
theorem writeP_hist : ∀ (gs : List (List (Int × List Int))) (s : DM) (B C : Nat), 1 ≤ B → (∀ k, (s.hist k).length ≤ B) → (∀ g ∈ gs, g.length ≤ C) → ∀ k, ((writeP s gs).1.hist k).length ≤ B + C
  | [], s, B, C, h1, h, _, k => by
    show (s.hist k).length ≤ _
    have := h k
    omega
  | g :: r, s, B, C, h1, h, hg, k => by
    have hp := putRes_hist s g
    have hgl := hg g (List.mem_cons_self ..)
    unfold writeP
    by_cases e1 : (putRes s g).2 ≠ 0
    · rw [if_pos e1]
      have := hp k
      have := h k
      omega
    · rw [if_neg e1]
      by_cases e2 : (barRes (putRes s g).1).2 ≠ 0
      · rw [if_pos e2]
        have := hp k
        have := h k
        exact (bar_hist (B := B + C) (by omega) (by omega)).1
      · rw [if_neg e2]
        refine writeP_hist r _ B C h1 (fun j => ?_) (fun x hx => hg x (List.mem_cons_of_mem _ hx)) k
        have := hp j
        have := h j
        exact Nat.le_trans ((bar_hist (B := B + C) (by omega) (by omega)).2 (by simpa using e2)) h1
theorem fit_of {n : Nat} {g : List (Int × List Int)} (h : ∀ p ∈ g, p.2.length = 64 ∧ 0 ≤ p.1 ∧ p.1 < (n : Int)) : Fit n g := by
  refine ⟨?_, ?_⟩
  · unfold badLen
    rw [List.any_eq_false]
    intro p hp
    rw [decide_eq_true_eq]
    exact fun e => e (h p hp).1
  · unfold badAt
    rw [List.any_eq_false]
    intro p hp
    rw [decide_eq_true_eq]
    have := h p hp
    omega
theorem still_small {d : DM} {f : Nat → List Int} (h : Still d f) : smallD d := fun k => by rw [h.2 k]; simp

/-! ### Power that does not go -/
theorem putAll_neg : ∀ (ws : List (Int × List Int)) (s : DM), s.left < 0 → (putAll s ws).1.left = s.left
  | [], s, _ => rfl
  | (a, d) :: r, s, h => by
    unfold putAll
    rw [if_neg (by omega)]
    have e : (addW (step1 s) a.toNat d).left = s.left := step1_left s h
    rw [putAll_neg r _ (by rw [e]; exact h), e]
theorem putRes_neg {s : DM} (g : List (Int × List Int)) (h : s.left < 0) : (putRes s g).1.left = s.left := by
  unfold putRes
  split
  · rfl
  · split
    · rfl
    · split
      · rfl
      · exact putAll_neg _ _ h
theorem barRes_neg {s : DM} (h : s.left < 0) : (barRes s).1.left = s.left := by
  unfold barRes
  split
  · rfl
  · split
    · rfl
    · exact step1_left s h
theorem writeP_neg : ∀ (gs : List (List (Int × List Int))) (s : DM), s.left < 0 → (writeP s gs).1.left = s.left
  | [], s, h => rfl
  | g :: r, s, h => by
    have hp := putRes_neg g h
    have hb : (barRes (putRes s g).1).1.left = s.left := by rw [barRes_neg (by rw [hp]; exact h), hp]
    unfold writeP
    split
    · exact hp
    · split
      · exact hb
      · rw [writeP_neg r _ (by rw [hb]; exact h), hb]

/-! ### Mixed images -/
/-- An image of which each block is one of f's, or one of a list's. -/
def Mix (f g : Nat → List Int) (ws : List (Int × List Int)) : Prop := ∀ k, g k = f k ∨ ∃ p ∈ ws, p.1.toNat = k ∧ g k = p.2
theorem Mix.off {f g : Nat → List Int} {ws : List (Int × List Int)} (hm : Mix f g ws) {k : Nat} (h : ∀ p ∈ ws, p.1.toNat ≠ k) : g k = f k := (hm k).resolve_right (fun ⟨p, hp, hk, _⟩ => h p hp hk)
theorem Mix.lens {f g : Nat → List Int} {ws : List (Int × List Int)} (hm : Mix f g ws) (hf : ∀ k, (f k).length = 64) (hw : ∀ p ∈ ws, p.2.length = 64) : ∀ k, (g k).length = 64 := fun k => by
  rcases hm k with h | ⟨p, hp, _, h⟩
  · rw [h]; exact hf k
  · rw [h]; exact hw p hp
theorem mix_lay (f : Nat → List Int) (ws : List (Int × List Int)) : Mix f (layI f ws) ws := layI_mix f ws
theorem mix_nil {f g : Nat → List Int} (h : Mix f g []) : g = f := funext fun k => (h k).resolve_right (fun ⟨p, hp, _⟩ => by cases hp)
theorem mix_one {f g : Nat → List Int} {p : Int × List Int} (h : Mix f g [p]) : g = f ∨ g = layI f [p] := by
  rcases h p.1.toNat with h1 | ⟨q, hq, _, h2⟩
  · refine Or.inl (funext fun k => ?_)
    by_cases e : k = p.1.toNat
    · rw [e, h1]
    · exact h.off (fun q hq => by rw [List.mem_singleton.1 hq]; exact fun e2 => e e2.symm)
  · refine Or.inr (funext fun k => ?_)
    rw [List.mem_singleton.1 hq] at h2
    show g k = if k = p.1.toNat then p.2 else f k
    by_cases e : k = p.1.toNat
    · rw [if_pos e, e, h2]
    · rw [if_neg e]
      exact h.off (fun q hq => by rw [List.mem_singleton.1 hq]; exact fun e2 => e e2.symm)
theorem layI_hit : ∀ (ws : List (Int × List Int)) (f g : Nat → List Int) (k : Nat), (∃ p ∈ ws, p.1.toNat = k) → layI f ws k = layI g ws k
  | [], f, g, k, ⟨p, hp, _⟩ => by cases hp
  | q :: r, f, g, k, ⟨p, hp, hk⟩ => by
    rw [layI_cons, layI_cons]
    by_cases e : ∃ p ∈ r, p.1.toNat = k
    · exact layI_hit r _ _ k e
    · have hn : ∀ p ∈ r, p.1.toNat ≠ k := fun p hp h => e ⟨p, hp, h⟩
      rw [layI_other _ r k hn, layI_other _ r k hn]
      rcases List.mem_cons.1 hp with rfl | hp
      · rw [if_pos hk.symm, if_pos hk.symm]
      · exact absurd hk (hn p hp)
theorem layI_same {f g : Nat → List Int} {ws : List (Int × List Int)} (h : Mix f g ws) : layI g ws = layI f ws := funext fun k => by
  by_cases e : ∃ p ∈ ws, p.1.toNat = k
  · exact layI_hit ws _ _ k e
  · have hn : ∀ p ∈ ws, p.1.toNat ≠ k := fun p hp h => e ⟨p, hp, h⟩
    rw [layI_other _ ws k hn, layI_other _ ws k hn, h.off hn]
theorem layI_twice (f : Nat → List Int) (ws : List (Int × List Int)) : layI (layI f ws) ws = layI f ws := layI_same (mix_lay f ws)

/-! ### Places -/
theorem logA_nat (a : Nat) : (logA a).toNat = 19 + a % 40 := rfl
theorem logA_in (a : Nat) : 0 ≤ logA a ∧ logA a < 59 := by unfold logA; omega
theorem home_ne {p : Int} (h : homeB p = true) : 0 ≤ p ∧ p < 480 ∧ p.toNat ≠ 1 ∧ (p.toNat < 19 ∨ 59 ≤ p.toNat) := by
  unfold homeB at h
  rw [decide_eq_true_eq] at h
  omega
theorem home_out {k : Nat} (h : homeB (k : Int) = true) : k ≠ 1 ∧ (k < 19 ∨ 59 ≤ k) := by
  have := home_ne h
  omega
theorem zeros_not_beg : isBeg zeros64 = false := (zero_not (by rfl)).1
theorem begB64 {d : PDesc} (h : soundD d = true) : (begB d).length = 64 := begB_length (soundD_parts h).1.2.1

/-! ### Images of a log -/
/-- At the head nothing is found. -/
structure Clean (n : Nat) (f : Nat → List Int) (a : Nat) (q : Int) : Prop where
  len : ∀ k, (f k).length = 64
  head : getHead (f 1) = ⟨(a : Int), q⟩
  a40 : a < 40
  q1 : 1 ≤ q
  none : isBeg (f (19 + a)) = false
  size : 64 ≤ n ∧ n ≤ 480
/-- At the head one transaction stands whole, behind it nothing is found. -/
structure Whole (n : Nat) (f : Nat → List Int) (a : Nat) (q : Int) (l : List (Int × List Int)) : Prop where
  len : ∀ k, (f k).length = 64
  head : getHead (f 1) = ⟨(a : Int), q⟩
  a40 : a < 40
  q1 : 1 ≤ q
  tx : txAt (ringI f) a q = some l
  none : isBeg (f (19 + (a + (l.length + 2)) % 40)) = false
  fits : ∀ p ∈ l, p.2.length = 64 ∧ p.1 < (n : Int) ∧ homeB p.1 = true
  size : 64 ≤ n ∧ n ≤ 480

theorem Clean.mix {n a : Nat} {f g : Nat → List Int} {q : Int} {ws : List (Int × List Int)} (h : Clean n f a q) (hm : Mix f g ws) (hw : ∀ p ∈ ws, p.2.length = 64 ∧ p.1.toNat ≠ 1 ∧ p.1.toNat ≠ 19 + a) : Clean n g a q where
  len := hm.lens h.len (fun p hp => (hw p hp).1)
  head := by rw [hm.off (fun p hp => (hw p hp).2.1)]; exact h.head
  a40 := h.a40
  q1 := h.q1
  none := by rw [hm.off (fun p hp => (hw p hp).2.2)]; exact h.none
  size := h.size
/-- The same head again. -/
theorem Clean.again {n a : Nat} {f : Nat → List Int} {q : Int} (h : Clean n f a q) (hq : q ≤ 1073741824) : Clean n (layI f [(1, headBlock ⟨(a : Int), q⟩)]) a q where
  len := (mix_lay f _).lens h.len (fun p hp => by rw [List.mem_singleton.1 hp]; exact headBlock_length _)
  head := (getHead_block (s := ⟨(a : Int), q⟩) (by have := h.a40; have := h.q1; unfold PHead.sound; rw [decide_eq_true_eq]; dsimp only; omega)).1
  a40 := h.a40
  q1 := h.q1
  none := by rw [(mix_lay f _).off (fun p hp => by rw [List.mem_singleton.1 hp]; show 1 ≠ 19 + a; omega)]; exact h.none
  size := h.size
theorem HoldsF.mix {n : Nat} {f g : Nat → List Int} {ws : List (Int × List Int)} {now : List ByteArray} (h : HoldsF n f now) (hm : Mix f g ws) (hw : ∀ p ∈ ws, ∀ k : Nat, homeB (k : Int) = true → p.1.toNat ≠ k) : HoldsF n g now :=
  h.off (fun i hi => hm.off (fun p hp => hw p hp i hi))
theorem Whole.mix {n a : Nat} {f g : Nat → List Int} {q : Int} {l : List (Int × List Int)} (h : Whole n f a q l) (hm : Mix f g l) : Whole n g a q l where
  len := hm.lens h.len (fun p hp => (h.fits p hp).1)
  head := by rw [hm.off (fun p hp => (home_ne (h.fits p hp).2.2).2.2.1)]; exact h.head
  a40 := h.a40
  q1 := h.q1
  tx := by
    rw [tx_same (g := f) (fun i hi => hm.off (fun p hp => by have := (home_ne (h.fits p hp).2.2).2.2.2; omega))]
    exact h.tx
  none := by
    rw [hm.off (fun p hp => by have := (home_ne (h.fits p hp).2.2).2.2.2; have := Nat.mod_lt (a + (l.length + 2)) (show 0 < 40 by decide); omega)]
    exact h.none
  fits := h.fits
  size := h.size
theorem Whole.lay {n a : Nat} {f : Nat → List Int} {q : Int} {l : List (Int × List Int)} (h : Whole n f a q l) : Whole n (layI f l) a q l := h.mix (mix_lay f l)
theorem mod40 (x : Nat) : x % 40 < 40 := Nat.mod_lt _ (by decide)
/-- The head goes on. -/
theorem Whole.next {n a : Nat} {f : Nat → List Int} {q : Int} {l : List (Int × List Int)} (h : Whole n f a q l) (hq : q < 1073741824) : Clean n (layI (layI f l) [(1, headBlock ⟨(((a + (l.length + 2)) % 40 : Nat) : Int), q + 1⟩)]) ((a + (l.length + 2)) % 40) (q + 1) where
  len := (mix_lay _ _).lens h.lay.len (fun p hp => by rw [List.mem_singleton.1 hp]; exact headBlock_length _)
  head := (getHead_block (s := ⟨(((a + (l.length + 2)) % 40 : Nat) : Int), q + 1⟩) (by have := mod40 (a + (l.length + 2)); have := h.q1; unfold PHead.sound; rw [decide_eq_true_eq]; dsimp only; omega)).1
  a40 := mod40 _
  q1 := by have := h.q1; omega
  none := by rw [(mix_lay _ _).off (fun p hp => by rw [List.mem_singleton.1 hp]; show 1 ≠ 19 + _; omega)]; exact h.lay.none
  size := h.size
theorem one_off {b : List Int} : ∀ p ∈ [((1 : Int), b)], ∀ k : Nat, homeB (k : Int) = true → p.1.toNat ≠ k := fun p hp k hk e => by
  rw [List.mem_singleton.1 hp] at e
  exact (home_out hk).1 e.symm

/-! ### Alive, cut off, behind a restart -/
def LiveJ (d : DM) (s : JS) (now : List ByteArray) (k : Nat) : Prop :=
  ∃ f a, Still d f ∧ Clean d.n f a s.seq ∧ s.at_ = (a : Int) ∧ s.seq ≤ 1 + (k : Int) ∧ k ≤ 1001 ∧ s.gone = false ∧ HoldsF d.n f now
def RecI (n : Nat) (f : Nat → List Int) (a b : List ByteArray) (k : Nat) : Prop :=
  ∃ x q, (Clean n f x q ∧ q ≤ 1 + (k : Int) ∧ (HoldsF n f a ∨ HoldsF n f b)) ∨ (∃ l, Whole n f x q l ∧ q + 1 ≤ 1 + (k : Int) ∧ HoldsF n (layI f l) b)
def RecJ (d : DM) (a b : List ByteArray) (k : Nat) : Prop :=
  a.length = d.n ∧ b.length = d.n ∧ k ≤ 1001 ∧ (64 ≤ d.n ∧ d.n ≤ 480) ∧ ∃ f, Still d f ∧ RecI d.n f a b k
def DeadJ (d : DM) (s : JS) (a b : List ByteArray) (k : Nat) : Prop := s.gone = true ∧ smallD d ∧ a.length = d.n ∧ b.length = d.n ∧ (64 ≤ d.n ∧ d.n ≤ 480) ∧ ∀ ks, RecJ (restarted d ks) a b k

theorem split3 {α : Type} {A B C : α} {g1 g2 : List α} {g : α} (h : [A, B, C] = g1 ++ g :: g2) : (g1 = [] ∧ g = A) ∨ (g1 = [A] ∧ g = B) ∨ (g1 = [A, B] ∧ g = C) := by
  rcases g1 with _ | ⟨x, _ | ⟨y, _ | ⟨z, r⟩⟩⟩
  · simp at h
    exact Or.inl ⟨rfl, h.1.symm⟩
  · simp at h
    exact Or.inr (Or.inl ⟨by rw [h.1], h.2.1.symm⟩)
  · simp at h
    exact Or.inr (Or.inr ⟨by rw [h.1, h.2.1], h.2.2.1.symm⟩)
  · simp at h
theorem split1 {α : Type} {A : α} {g1 g2 : List α} {g : α} (h : [A] = g1 ++ g :: g2) : g1 = [] ∧ g = A := by
  rcases g1 with _ | ⟨x, r⟩
  · simp at h
    exact ⟨rfl, h.1.symm⟩
  · simp at h

/-! ### Open -/
theorem still_restart_n (d : DM) (ks : List Int) : (restarted d ks).n = d.n := rfl
/-- Open over a settled disk: all of it, or torn. -/
theorem open_still {d : DM} {f : Nat → List Int} (hs : Still d f) (hn : 64 ≤ d.n) (hE : lookE d = 0) (hW : ∀ p ∈ lookW d, p.2.length = 64 ∧ 0 ≤ p.1 ∧ p.1 < (d.n : Int)) :
    (openJ d).1.n = d.n ∧ (((openJ d).2 = (some ⟨(lookH d).1, (lookH d).2, false⟩, 0) ∧ Still (openJ d).1 (layI (layI f (lookW d)) [(1, headBlock ⟨(lookH d).1, (lookH d).2⟩)]) ∧ (d.left < 0 → (openJ d).1.left = d.left)) ∨
      ((openJ d).2 = (none, 8) ∧ 0 ≤ d.left ∧ smallD (openJ d).1 ∧ ((Torn (openJ d).1 f []) ∨ (Torn (openJ d).1 f (lookW d)) ∨ (Torn (openJ d).1 (layI f (lookW d)) [(1, headBlock ⟨(lookH d).1, (lookH d).2⟩)])))) := by
  have hf : ∀ g ∈ openG d, Fit d.n g := by
    intro g hg
    refine fit_of fun p hp => ?_
    unfold openG at hg
    simp only [List.mem_cons, List.not_mem_nil, or_false] at hg
    rcases hg with rfl | rfl | rfl
    · cases hp
    · exact hW p hp
    · rw [List.mem_singleton.1 hp]
      exact ⟨headBlock_length _, by show (0 : Int) ≤ 1; decide, by show (1 : Int) < _; omega⟩
  obtain ⟨h1, h2⟩ := writeP_ways (openG d) d f hs hf
  have hsm : smallD (writeP d (openG d)).1 := fun k => by
    have hl := lookW_len d
    have := writeP_hist (openG d) d 1 1000 (Nat.le_refl _) (fun k => by rw [hs.2 k]; simp) (fun g hg => by
      unfold openG at hg
      simp only [List.mem_cons, List.not_mem_nil, or_false] at hg
      rcases hg with rfl | rfl | rfl
      · decide
      · omega
      · show 1 ≤ 1000; decide) k
    omega
  have e0 : openJ d = if (writeP d (openG d)).2 ≠ 0 then ((writeP d (openG d)).1, none, (writeP d (openG d)).2) else ((writeP d (openG d)).1, some ⟨(lookH d).1, (lookH d).2, false⟩, 0) := by
    unfold openJ
    rw [if_neg (by rw [hE]; decide)]
  rcases h2 with ⟨p1, p2, p3⟩ | ⟨p1, p2, g1, g, g2, p3, p4⟩
  · rw [if_neg (by rw [p1]; decide)] at e0
    rw [e0]
    exact ⟨h1, Or.inl ⟨rfl, p2, p3⟩⟩
  · rw [if_pos (by rw [p1]; decide), p1] at e0
    rw [e0]
    refine ⟨h1, Or.inr ⟨rfl, p2, hsm, ?_⟩⟩
    rcases split3 p3 with ⟨rfl, rfl⟩ | ⟨rfl, rfl⟩ | ⟨rfl, rfl⟩
    · exact Or.inl p4
    · exact Or.inr (Or.inl p4)
    · exact Or.inr (Or.inr p4)

theorem keep_all {n : Int} {l : List (Int × List Int)} (h : ∀ p ∈ l, p.1 < n) : keepW n l = l := by
  unfold keepW
  rw [List.filter_eq_self]
  exact fun p hp => decide_eq_true (h p hp)
/-- What look finds on a disk behind a restart. -/
theorem look_clean {d : DM} {f : Nat → List Int} {a : Nat} {q : Int} (hs : Still d f) (h : Clean d.n f a q) (hq : q ≤ 1073741824) : lookE d = 0 ∧ lookW d = [] ∧ lookH d = ((a : Int), q) :=
  look_none hs h.size.1 h.len h.head (by have := h.a40; omega) ⟨h.q1, hq⟩ (tx_no h.a40 (fun e => by rw [h.none] at e; cases e))
theorem look_whole {d : DM} {f : Nat → List Int} {a : Nat} {q : Int} {l : List (Int × List Int)} (hs : Still d f) (h : Whole d.n f a q l) (hq : q < 1073741824) : lookE d = 0 ∧ lookW d = l ∧ lookH d = ((((a + (l.length + 2)) % 40 : Nat) : Int), q + 1) := by
  obtain ⟨h1, h2, h3⟩ := look_one hs h.size.1 h.len h.head (by have := h.a40; omega) ⟨h.q1, hq⟩ h.tx (tx_no (mod40 _) (fun e => by rw [h.none] at e; cases e))
  exact ⟨h1, by rw [h2, keep_all (fun p hp => (h.fits p hp).2.1)], h3⟩

/-- Behind a torn Open. -/
theorem rec_open {d D : DM} {f : Nat → List Int} {a b : List ByteArray} {k : Nat} (hk : k ≤ 1001) (hr : RecI d.n f a b k) (hs : Still d f) (hT : (Torn D f []) ∨ (Torn D f (lookW d)) ∨ (Torn D (layI f (lookW d)) [(1, headBlock ⟨(lookH d).1, (lookH d).2⟩)])) (ks : List Int) : ∃ g, Still (restarted D ks) g ∧ RecI d.n g a b k := by
  obtain ⟨x, q, ⟨hc, hq, hh⟩ | ⟨l, hw, hq, hh⟩⟩ := hr
  · obtain ⟨_, e2, e3⟩ := look_clean hs hc (by omega)
    rw [e2, e3] at hT
    have hT2 : Torn D f [] ∨ Torn D f [(1, headBlock ⟨(x : Int), q⟩)] := by
      rcases hT with h | h | h
      · exact Or.inl h
      · exact Or.inl h
      · exact Or.inr h
    rcases hT2 with h | h
    · obtain ⟨g, hg, hm⟩ := torn_restarted h ks
      rw [mix_nil hm] at hg
      exact ⟨f, hg, x, q, Or.inl ⟨hc, hq, hh⟩⟩
    · obtain ⟨g, hg, hm⟩ := torn_restarted h ks
      refine ⟨g, hg, x, q, Or.inl ⟨?_, hq, hh.imp (fun h => h.mix hm one_off) (fun h => h.mix hm one_off)⟩⟩
      rcases mix_one hm with rfl | rfl
      · exact hc
      · exact hc.again (by omega)
  · obtain ⟨_, e2, e3⟩ := look_whole hs hw (by omega)
    rw [e2, e3] at hT
    rcases hT with h | h | h
    · obtain ⟨g, hg, hm⟩ := torn_restarted h ks
      rw [mix_nil hm] at hg
      exact ⟨f, hg, x, q, Or.inr ⟨l, hw, hq, hh⟩⟩
    · obtain ⟨g, hg, hm⟩ := torn_restarted h ks
      exact ⟨g, hg, x, q, Or.inr ⟨l, hw.mix hm, hq, by rw [layI_same hm]; exact hh⟩⟩
    · obtain ⟨g, hg, hm⟩ := torn_restarted h ks
      rcases mix_one hm with rfl | rfl
      · exact ⟨_, hg, x, q, Or.inr ⟨l, hw.lay, hq, by rw [layI_twice]; exact hh⟩⟩
      · exact ⟨_, hg, _, _, Or.inl ⟨hw.next (by omega), hq, Or.inr (hh.mix (mix_lay _ _) one_off)⟩⟩

theorem recI_len {n k : Nat} {f : Nat → List Int} {a b : List ByteArray} (h : RecI n f a b k) : ∀ j, (f j).length = 64 := by
  obtain ⟨x, q, ⟨hc, _⟩ | ⟨l, hw, _⟩⟩ := h
  · exact hc.len
  · exact hw.len
theorem recJ_look {d : DM} {a b : List ByteArray} {k : Nat} (h : RecJ d a b k) : lookE d = 0 ∧ ∀ p ∈ lookW d, p.2.length = 64 ∧ 0 ≤ p.1 ∧ p.1 < (d.n : Int) := by
  obtain ⟨_, _, hk, _, f, hs, x, q, ⟨hc, hq, hh⟩ | ⟨l, hw, hq, hh⟩⟩ := h
  · obtain ⟨e1, e2, e3⟩ := look_clean hs hc (by omega)
    refine ⟨e1, fun p hp => ?_⟩
    rw [e2] at hp
    cases hp
  · obtain ⟨e1, e2, e3⟩ := look_whole hs hw (by omega)
    refine ⟨e1, fun p hp => ?_⟩
    rw [e2] at hp
    have := hw.fits p hp
    exact ⟨this.1, (home_ne this.2.2).1, this.2.1⟩

theorem opensJ {d : DM} {a b : List ByteArray} {k : Nat} (h : RecJ d a b k) : (openJ d).1.n = d.n ∧ ((∃ s x, (openJ d).2 = (some s, 0) ∧ (x = a ∨ x = b) ∧ LiveJ (openJ d).1 s x k ∧ (d.left < 0 → (openJ d).1.left = d.left)) ∨ ((openJ d).2 = (none, 8) ∧ 0 ≤ d.left ∧ smallD (openJ d).1 ∧ ∀ ks, RecJ (restarted (openJ d).1 ks) a b k)) := by
  obtain ⟨hE, hW⟩ := recJ_look h
  obtain ⟨ha, hb, hk, hn, f, hs, hr⟩ := h
  obtain ⟨h1, h2⟩ := open_still hs hn.1 hE hW
  refine ⟨h1, ?_⟩
  rcases h2 with ⟨p1, p2, p3⟩ | ⟨p1, p2, p3, p4⟩
  · refine Or.inl ?_
    obtain ⟨x, q, ⟨hc, hq, hh⟩ | ⟨l, hw, hq, hh⟩⟩ := hr
    · obtain ⟨_, e2, e3⟩ := look_clean hs hc (by omega)
      rw [e3] at p1
      rw [e2, e3] at p2
      have hc2 : Clean (openJ d).1.n (layI (layI f []) [(1, headBlock ⟨(x : Int), q⟩)]) x q := by rw [h1]; exact hc.again (by omega)
      rcases hh with hh | hh
      · exact ⟨_, a, p1, Or.inl rfl, ⟨_, x, p2, hc2, rfl, hq, hk, rfl, by rw [h1]; exact hh.mix (mix_lay _ _) one_off⟩, p3⟩
      · exact ⟨_, b, p1, Or.inr rfl, ⟨_, x, p2, hc2, rfl, hq, hk, rfl, by rw [h1]; exact hh.mix (mix_lay _ _) one_off⟩, p3⟩
    · obtain ⟨_, e2, e3⟩ := look_whole hs hw (by omega)
      rw [e3] at p1
      rw [e2, e3] at p2
      exact ⟨_, b, p1, Or.inr rfl, ⟨_, _, p2, by rw [h1]; exact hw.next (by omega), rfl, hq, hk, rfl, by rw [h1]; exact hh.mix (mix_lay _ _) one_off⟩, p3⟩
  · refine Or.inr ⟨p1, p2, p3, fun ks => ?_⟩
    obtain ⟨g, hg, hr2⟩ := rec_open hk hr hs p4 ks
    refine ⟨by rw [still_restart_n, h1]; exact ha, by rw [still_restart_n, h1]; exact hb, hk, by rw [still_restart_n, h1]; exact hn, g, hg, by rw [still_restart_n, h1]; exact hr2⟩

/-! ### Look -/
theorem layR_lay (f : Nat → List Int) (n : Nat) : ∀ ws : List (Int × List Int), layR ((List.range n).map f) ws = (List.range n).map (layI f ws)
  | [] => rfl
  | p :: r => by
    rw [layI_cons, ← layR_lay (fun k => if k = p.1.toNat then p.2 else f k) n r]
    show layR (((List.range n).map f).set p.1.toNat p.2) r = _
    congr 1
    refine List.ext_getElem? fun i => ?_
    rw [List.getElem?_set]
    by_cases e : p.1.toNat = i
    · rw [if_pos e]
      by_cases hi : i < n
      · rw [if_pos (by simp; omega), List.getElem?_map, List.getElem?_range hi]
        simp [e]
      · rw [if_neg (by simp; omega), List.getElem?_eq_none (by simp; omega)]
    · rw [if_neg e, List.getElem?_map, List.getElem?_map]
      by_cases hi : i < n
      · rw [List.getElem?_range hi]
        simp only [Option.map_some]
        rw [if_neg (fun e2 => e e2.symm)]
      · rw [List.getElem?_eq_none (by simp; omega)]
        rfl
theorem range_get (f : Nat → List Int) {n i : Nat} (h : i < n) : ((List.range n).map f)[i]? = some (f i) := by
  rw [List.getElem?_map, List.getElem?_range h]
  rfl
theorem readJ_still {d : DM} {f : Nat → List Int} {s : JS} (hs : Still d f) (hg : s.gone = false) {i : Nat} (hi : i < d.n) : readJ d s (i : Int) = (f i, 0) := by
  unfold readJ
  rw [if_neg (by rw [hg]; decide), still_out hs hi, diskErr_ok hi hs.1]
theorem looksJ {d : DM} {a b : List ByteArray} {k : Nat} (h : RecJ d a b k) : (lookJ d).2 = 0 ∧ (lookJ d).1.length = d.n ∧ ∀ s, (openJ d).2 = (some s, 0) → ∀ i : Nat, i < d.n → i ≠ 1 → (lookJ d).1[i]? = some (readJ (openJ d).1 s (i : Int)).1 := by
  obtain ⟨hE, hW⟩ := recJ_look h
  obtain ⟨ha, hb, hk, hn, f, hs, hr⟩ := h
  have hR : lookR d = (List.range d.n).map f := by
    unfold lookR
    rw [if_pos hE, still_curs hs]
  have e1 : (lookJ d).1 = (List.range d.n).map (layI f (lookW d)) := by
    show layR (lookR d) (lookW d) = _
    rw [hR, layR_lay]
  refine ⟨hE, by rw [e1]; simp, fun s hos i hi hi1 => ?_⟩
  obtain ⟨h1, h2⟩ := open_still hs hn.1 hE hW
  rw [e1, range_get _ hi]
  rcases h2 with ⟨p1, p2, p3⟩ | ⟨p1, _⟩
  · rw [hos] at p1
    obtain ⟨rfl, _⟩ := Prod.mk.inj p1 |>.imp_left Option.some.inj
    rw [readJ_still p2 rfl (by rw [h1]; exact hi)]
    congr 1
    exact ((mix_lay _ _).off (fun p hp => by rw [List.mem_singleton.1 hp]; exact fun e => hi1 e.symm)).symm
  · rw [hos] at p1
    cases p1
end Go.Proofs.Ytbnepjojfaeggaa

namespace Go.Proofs.Ytbnepjojfaeggaa
open Go.RowKit
set_option linter.unusedVariables false
set_option linter.unusedSimpArgs false

/-! ### What a commit puts behind the head -/
theorem behind_at {s : JS} {ws : List (Int × List Int)} {a : Nat} (ha : s.at_ = (a : Int)) (hw : ∀ p ∈ ws, p.2.length = 64) : ∀ p ∈ behindG s ws, p.2.length = 64 ∧ ∃ j, 1 ≤ j ∧ j ≤ ws.length + 2 ∧ p.1 = logA (a + j) := by
  intro p hp
  unfold behindG at hp
  have e : s.at_.toNat = a := by omega
  rw [e] at hp
  rcases List.mem_cons.1 hp with rfl | hp
  · refine ⟨by show zeros64.length = 64; decide, ws.length + 2, by omega, Nat.le_refl _, ?_⟩
    unfold nextA logA
    rw [e]
    dsimp only
    omega
  · rcases List.mem_cons.1 hp with rfl | hp
    · refine ⟨endB_length _ _, ws.length + 1, by omega, by omega, ?_⟩
      dsimp only
      congr 1
      omega
    · unfold dataG at hp
      obtain ⟨i, hi, rfl⟩ := List.mem_map.1 hp
      have hi := List.mem_range.1 hi
      refine ⟨?_, 1 + i, by omega, by omega, ?_⟩
      · dsimp only
        rw [List.getD_eq_getElem?_getD, List.getElem?_eq_getElem hi]
        exact hw _ (List.getElem_mem hi)
      · dsimp only
        congr 1
        omega
theorem behind_len (s : JS) (ws : List (Int × List Int)) : (behindG s ws).length = ws.length + 2 := by
  unfold behindG dataG
  simp
theorem behind_nodup {s : JS} {ws : List (Int × List Int)} {a : Nat} (ha : s.at_ = (a : Int)) (hl : ws.length ≤ 20) : ((behindG s ws).map fun q => q.1.toNat).Nodup := by
  have e : s.at_.toNat = a := by omega
  unfold behindG dataG
  rw [e, List.map_cons, List.map_cons, List.map_map, List.nodup_cons, List.nodup_cons]
  have e1 : ∀ i : Nat, ((fun q : Int × List Int => q.1.toNat) ∘ fun i => (logA (a + 1 + i), (ws.getD i (0, [])).2)) i = 19 + (a + 1 + i) % 40 := fun i => rfl
  refine ⟨?_, ?_, ?_⟩
  · intro h
    rcases List.mem_cons.1 h with h | h
    · unfold nextA at h
      rw [logA_nat, logA_nat, e] at h
      omega
    · obtain ⟨i, hi, h⟩ := List.mem_map.1 h
      have hi := List.mem_range.1 hi
      rw [e1] at h
      unfold nextA at h
      rw [logA_nat, e] at h
      omega
  · intro h
    obtain ⟨i, hi, h⟩ := List.mem_map.1 h
    have hi := List.mem_range.1 hi
    rw [e1, logA_nat] at h
    omega
  · refine List.pairwise_map.2 (List.Pairwise.imp_of_mem (fun {x y} hx hy hne h => ?_) List.nodup_range)
    have hx := List.mem_range.1 hx
    have hy := List.mem_range.1 hy
    rw [e1, e1] at h
    omega
/-- The image behind the first group, and the first block: a whole transaction. -/
theorem whole_made {n a : Nat} {f : Nat → List Int} {s : JS} {ws : List (Int × List Int)} (h : Clean n f a s.seq) (ha : s.at_ = (a : Int)) (hq : s.seq < 1073741824) (hc : checkW ws (n : Int) = 0) (hne : ws ≠ []) :
    Clean n (layI f (behindG s ws)) a s.seq ∧ Whole n (layI (layI f (behindG s ws)) [(logA a, firstOut (n : Int) s.seq ws)]) a s.seq ws := by
  obtain ⟨c1, c2, c3, _⟩ := check_ok hc hne
  obtain ⟨f1, f2⟩ := first_out (q := s.seq) hne ⟨h.q1, by omega⟩ hc
  have hb := behind_at (s := s) (ws := ws) ha (fun p hp => (c1 p hp).1)
  have hnd := behind_nodup (s := s) (ws := ws) ha c3.2
  have ha40 := h.a40
  have hB : Clean n (layI f (behindG s ws)) a s.seq := h.mix (mix_lay _ _) (fun p hp => by
    obtain ⟨h1, j, j1, j2, e⟩ := hb p hp
    rw [e, logA_nat]
    exact ⟨h1, by omega, by omega⟩)
  rw [f1]
  have e19 : 19 + a % 40 = 19 + a := by omega
  have eF : ∀ k, k ≠ 19 + a → layI (layI f (behindG s ws)) [(logA a, begB ⟨s.seq, ws.map Prod.fst⟩)] k = layI f (behindG s ws) k := fun k hk =>
    (mix_lay _ _).off (fun p hp => by rw [List.mem_singleton.1 hp]; show 19 + a % 40 ≠ k; omega)
  have eA : layI (layI f (behindG s ws)) [(logA a, begB ⟨s.seq, ws.map Prod.fst⟩)] (19 + a) = begB ⟨s.seq, ws.map Prod.fst⟩ := by
    show (if 19 + a = (logA a).toNat then _ else _) = _
    rw [logA_nat, e19, if_pos rfl]
  refine ⟨hB, ?_⟩
  refine { len := (mix_lay _ _).lens hB.len (fun p hp => by rw [List.mem_singleton.1 hp]; exact begB64 f2), head := by rw [eF 1 (by omega)]; exact hB.head, a40 := h.a40, q1 := h.q1, tx := ?_, none := ?_, fits := fun p hp => c1 p hp, size := h.size }
  · refine tx_made f2 ha40 eA (fun i p hp => ?_) ?_
    · obtain ⟨hi, rfl⟩ := List.getElem?_eq_some_iff.1 hp
      rw [eF _ (by omega)]
      have e3 : (behindG s ws)[i + 2]? = some (logA (a + 1 + i), ws[i].2) := by
        unfold behindG dataG
        rw [List.getElem?_cons_succ, List.getElem?_cons_succ, List.getElem?_map, List.getElem?_range hi]
        have e : s.at_.toNat = a := by omega
        rw [e, Option.map_some, List.getD_eq_getElem?_getD, List.getElem?_eq_getElem hi]
        rfl
      have := layI_at f (behindG s ws) (i + 2) _ hnd e3
      rw [logA_nat] at this
      exact this
    · rw [eF _ (by omega)]
      have e3 : (behindG s ws)[1]? = some (logA (a + 1 + ws.length), endB s.seq (ws.length : Int)) := by
        have e : s.at_.toNat = a := by omega
        unfold behindG
        rw [e]
        rfl
      have := layI_at f (behindG s ws) 1 _ hnd e3
      rw [logA_nat, show a + 1 + ws.length = a + (ws.length + 1) by omega] at this
      exact this
  · rw [eF _ (by omega)]
    have e3 : (behindG s ws)[0]? = some (logA (nextA s ws.length), zeros64) := rfl
    have := layI_at f (behindG s ws) 0 _ hnd e3
    have e : s.at_.toNat = a := by omega
    unfold nextA at this
    rw [logA_nat, e, Nat.mod_mod, show a + ws.length + 2 = a + (ws.length + 2) by omega] at this
    rw [this]
    exact zeros_not_beg

/-! ### Commit -/
theorem clear_clean {d : DM} {s : JS} {f : Nat → List Int} {a : Nat} (hs : Still d f) (h : Clean d.n f a s.seq) (ha : s.at_ = (a : Int)) : clearP d s = (d, 0) := by
  have e : s.at_.toNat = a := by omega
  have e2 : logA a = ((19 + a : Nat) : Int) := by unfold logA; have := h.a40; omega
  have hlt : 19 + a < d.n := by have := h.a40; have := h.size; omega
  unfold clearP
  rw [e, e2, diskErr_ok hlt hs.1, if_neg (by decide), still_out hs hlt, h.none, if_neg (by decide)]

/-- A commit that is not taken, or of nothing. -/
theorem commit_no_J {d : DM} {s : JS} {now : List ByteArray} {k : Nat} {ws : List (Int × List Int)} (h : LiveJ d s now k) (hk : k ≤ 1000) (hc : checkW ws (d.n : Int) ≠ 0 ∨ ws = []) : commitJ d s ws = (d, s, checkW ws (d.n : Int)) := by
  obtain ⟨f, a, hs, hcl, ha, hq, hk1, hg, hh⟩ := h
  have e0 : commit0 d s ws = (d, s, checkW ws (d.n : Int)) := by
    unfold commit0
    by_cases hne : ws = []
    · rw [if_pos hne, hne]
      rfl
    · have hc := hc.resolve_right hne
      rw [if_neg hne]
      by_cases h20 : 20 < ws.length
      · rw [if_pos h20, check_many h20]
      · rw [if_neg h20, if_neg (by omega), first_check hne ⟨hcl.q1, by omega⟩, if_pos hc]
  have h8 : checkW ws (d.n : Int) ≠ 8 := by
    unfold checkW
    split
    · decide
    · split
      · decide
      · split <;> decide
  unfold commitJ
  rw [if_neg (by rw [hg]; decide), e0]
  obtain ⟨at_, seq, gone⟩ := s
  simp only at hg ⊢
  rw [hg, decide_eq_false h8]

theorem commit_yes_J {d : DM} {s : JS} {now : List ByteArray} {k : Nat} {ws : List (Int × List Int)} (h : LiveJ d s now k) (hk : k ≤ 1000) (hc : checkW ws (d.n : Int) = 0) (hne : ws ≠ []) :
    (commitJ d s ws).1.n = d.n ∧ (((commitJ d s ws).2.2 = 0 ∧ LiveJ (commitJ d s ws).1 (commitJ d s ws).2.1 (putS now ws) (k + 1) ∧ (d.left < 0 → (commitJ d s ws).1.left = d.left)) ∨
      ((commitJ d s ws).2.2 = 8 ∧ 0 ≤ d.left ∧ DeadJ (commitJ d s ws).1 (commitJ d s ws).2.1 now (putS now ws) (k + 1))) := by
  obtain ⟨f, a, hs, hcl, ha, hq, hk1, hg, hh⟩ := h
  obtain ⟨c1, c2, c3, _⟩ := check_ok hc hne
  have eat : s.at_.toNat = a := by omega
  have hq1 := hcl.q1
  have hlen : (putS now ws).length = d.n := by rw [putS_length]; exact hh.1
  obtain ⟨hB, hW⟩ := whole_made hcl ha (by omega) hc hne
  obtain ⟨f1, f2⟩ := first_out (q := s.seq) hne ⟨hq1, by omega⟩ hc
  have hb := behind_at (s := s) (ws := ws) ha (fun p hp => (c1 p hp).1)
  have hsz := hcl.size
  have eC := clear_clean hs hcl ha
  have eW : commitW d s ws = writeP d [behindG s ws, [(logA a, firstOut (d.n : Int) s.seq ws)], ws] := by unfold commitW; rw [eC, eat]
  have e0 : commit0 d s ws = if (commitW d s ws).2 ≠ 0 then ((commitW d s ws).1, s, (commitW d s ws).2) else ((commitH d s ws).1, ⟨(nextA s ws.length : Nat), s.seq + 1, s.gone⟩, (commitH d s ws).2) := by
    unfold commit0
    rw [if_neg hne, if_neg (by omega), if_neg (by omega), first_check hne ⟨hq1, by omega⟩, hc, if_neg (by decide), eC, if_neg (fun h => h rfl)]
  have eJ : commitJ d s ws = ((commit0 d s ws).1, ⟨(commit0 d s ws).2.1.at_, (commit0 d s ws).2.1.seq, decide ((commit0 d s ws).2.2 = 8)⟩, (commit0 d s ws).2.2) := by
    unfold commitJ
    rw [if_neg (by rw [hg]; decide)]
  have hfit : ∀ g ∈ [behindG s ws, [(logA a, firstOut (d.n : Int) s.seq ws)], ws], Fit d.n g := by
    intro g hg
    refine fit_of fun p hp => ?_
    simp only [List.mem_cons, List.not_mem_nil, or_false] at hg
    rcases hg with rfl | rfl | rfl
    · obtain ⟨h1, j, _, _, e⟩ := hb p hp
      rw [e]
      have := logA_in (a + j)
      exact ⟨h1, by omega, by omega⟩
    · rw [List.mem_singleton.1 hp, f1]
      have := logA_in a
      exact ⟨begB64 f2, by dsimp only; omega, by dsimp only; omega⟩
    · have := c1 p hp
      exact ⟨this.1, (home_ne this.2.2).1, this.2.1⟩
  have hbo : ∀ p ∈ behindG s ws, ∀ k : Nat, homeB (k : Int) = true → p.1.toNat ≠ k := fun p hp k hk e => by
    obtain ⟨_, j, _, _, e2⟩ := hb p hp
    rw [e2, logA_nat] at e
    have := (home_out hk).2
    omega
  have hlo : ∀ b : List Int, ∀ p ∈ [(logA a, b)], ∀ k : Nat, homeB (k : Int) = true → p.1.toNat ≠ k := fun b p hp k hk e => by
    rw [List.mem_singleton.1 hp] at e
    have e : 19 + a % 40 = k := e
    have := (home_out hk).2
    omega
  obtain ⟨F1, hF1⟩ : ∃ F1, layI f (behindG s ws) = F1 := ⟨_, rfl⟩
  obtain ⟨F2, hF2⟩ : ∃ F2, layI F1 [(logA a, firstOut (d.n : Int) s.seq ws)] = F2 := ⟨_, rfl⟩
  have hh1 : HoldsF d.n F1 now := by rw [← hF1]; exact hh.mix (mix_lay _ _) hbo
  have hh2 : HoldsF d.n F2 now := by rw [← hF2]; exact hh1.mix (mix_lay _ _) (hlo _)
  have hh3 : HoldsF d.n (layI F2 ws) (putS now ws) := hh2.put ws (fun p hp => ⟨(home_ne (c1 p hp).2.2).1, (c1 p hp).2.1⟩)
  rw [hF1] at hB
  rw [hF1, hF2] at hW
  obtain ⟨w1, w2⟩ := writeP_ways [behindG s ws, [(logA a, firstOut (d.n : Int) s.seq ws)], ws] d f hs hfit
  have wsm : ∀ k, ((writeP d [behindG s ws, [(logA a, firstOut (d.n : Int) s.seq ws)], ws]).1.hist k).length ≤ 23 := fun k => by
    have := writeP_hist [behindG s ws, [(logA a, firstOut (d.n : Int) s.seq ws)], ws] d 1 22 (Nat.le_refl _) (fun k => by rw [hs.2 k]; simp) (fun g hg => by
      simp only [List.mem_cons, List.not_mem_nil, or_false] at hg
      rcases hg with rfl | rfl | rfl
      · rw [behind_len]; omega
      · show 1 ≤ 22; decide
      · omega) k
    omega
  rw [← eW] at w1 w2 wsm
  rcases w2 with ⟨p1, p2, p3⟩ | ⟨p1, p2, g1, g, g2, p3, p4⟩
  · rw [if_neg (by rw [p1]; decide)] at e0
    rw [e0] at eJ
    have p2 : Still (commitW d s ws).1 (layI F2 ws) := by
      have e : layG f [behindG s ws, [(logA a, firstOut (d.n : Int) s.seq ws)], ws] = layI F2 ws := by rw [← hF2, ← hF1]; rfl
      rw [← e]
      exact p2
    obtain ⟨v1, v2⟩ := writeP_ways [[(1, headBlock ⟨(nextA s ws.length : Nat), s.seq + 1⟩)]] (commitW d s ws).1 _ p2 (fun g hg => fit_of fun p hp => by
      rw [List.mem_singleton.1 hg] at hp
      rw [List.mem_singleton.1 hp, w1]
      exact ⟨headBlock_length _, by show (0 : Int) ≤ 1; decide, by show (1 : Int) < _; omega⟩)
    have vsm : smallD (writeP (commitW d s ws).1 [[(1, headBlock ⟨(nextA s ws.length : Nat), s.seq + 1⟩)]]).1 := fun k => by
      have := writeP_hist [[(1, headBlock ⟨(nextA s ws.length : Nat), s.seq + 1⟩)]] (commitW d s ws).1 1 1 (Nat.le_refl _) (fun k => by rw [p2.2 k]; simp) (fun g hg => by rw [List.mem_singleton.1 hg]; simp) k
      omega
    have enx : nextA s ws.length = (a + (ws.length + 2)) % 40 := by unfold nextA; rw [eat, Nat.add_assoc]
    have hCl := hW.next (by omega)
    rw [← enx] at hCl
    have eH : commitH d s ws = writeP (commitW d s ws).1 [[(1, headBlock ⟨(nextA s ws.length : Nat), s.seq + 1⟩)]] := rfl
    rw [← eH] at v1 v2 vsm
    rcases v2 with ⟨q1, q2, q3⟩ | ⟨q1, q2, g1, g, g2, q3, q4⟩
    · rw [eJ]
      refine ⟨by rw [v1, w1], Or.inl ⟨q1, ⟨_, nextA s ws.length, q2, by rw [v1, w1]; exact hCl, rfl, ?_, by omega, ?_, by rw [v1, w1]; exact hh3.mix (mix_lay _ _) one_off⟩, fun hl => ?_⟩⟩
      · show s.seq + 1 ≤ 1 + ((k + 1 : Nat) : Int)
        omega
      · show decide ((commitH d s ws).2 = 8) = false
        rw [q1]
        rfl
      · rw [q3 (by rw [p3 hl]; exact hl), p3 hl]
    · obtain ⟨rfl, rfl⟩ := split1 q3
      rw [eJ]
      refine ⟨by rw [v1, w1], Or.inr ⟨q1, ?_, ?_⟩⟩
      · by_cases hl : 0 ≤ d.left
        · exact hl
        · have := p3 (by omega)
          omega
      · refine ⟨by show decide ((commitH d s ws).2 = 8) = true; rw [q1]; rfl, vsm, by rw [v1, w1]; exact hh.1, by rw [v1, w1]; exact hlen, by rw [v1, w1]; exact hsz, fun ks => ?_⟩
        obtain ⟨G, hG, hm⟩ := torn_restarted q4 ks
        have en : (restarted (commitH d s ws).1 ks).n = d.n := by rw [still_restart_n, v1, w1]
        refine ⟨by rw [en]; exact hh.1, by rw [en]; exact hlen, by omega, by rw [en]; exact hsz, G, hG, ?_⟩
        rw [en]
        rcases mix_one hm with rfl | rfl
        · exact ⟨a, s.seq, Or.inr ⟨ws, hW.lay, by omega, by rw [show layG (layI F2 ws) [] = layI F2 ws from rfl, layI_twice]; exact hh3⟩⟩
        · exact ⟨_, _, Or.inl ⟨hCl, by omega, Or.inr (hh3.mix (mix_lay _ _) one_off)⟩⟩
  · rw [if_pos (by rw [p1]; decide), p1] at e0
    rw [e0] at eJ
    rw [eJ]
    refine ⟨w1, Or.inr ⟨rfl, p2, rfl, fun k => Nat.le_trans (wsm k) (by decide), by rw [w1]; exact hh.1, by rw [w1]; exact hlen, by rw [w1]; exact hsz, fun ks => ?_⟩⟩
    have en : (restarted (commitW d s ws).1 ks).n = d.n := by rw [still_restart_n, w1]
    obtain ⟨G, hG, hm⟩ := torn_restarted p4 ks
    refine ⟨by rw [en]; exact hh.1, by rw [en]; exact hlen, by omega, by rw [en]; exact hsz, G, hG, ?_⟩
    rw [en]
    rcases split3 p3 with ⟨e1, e2⟩ | ⟨e1, e2⟩ | ⟨e1, e2⟩
    · rw [e1, e2] at hm
      refine ⟨a, s.seq, Or.inl ⟨hcl.mix hm (fun p hp => ?_), by omega, Or.inl (hh.mix hm hbo)⟩⟩
      obtain ⟨h1, j, j1, j2, e⟩ := hb p hp
      rw [e, logA_nat]
      have := hcl.a40
      exact ⟨h1, by omega, by omega⟩
    · rw [e1, e2, show layG f [behindG s ws] = F1 from hF1] at hm
      rcases mix_one hm with rfl | rfl
      · exact ⟨a, s.seq, Or.inl ⟨hB, by omega, Or.inl hh1⟩⟩
      · rw [hF2]
        exact ⟨a, s.seq, Or.inr ⟨ws, hW, by omega, hh3⟩⟩
    · rw [e1, e2, show layG f [behindG s ws, [(logA a, firstOut (d.n : Int) s.seq ws)]] = F2 by rw [← hF2, ← hF1]; rfl] at hm
      exact ⟨a, s.seq, Or.inr ⟨ws, hW.mix hm, by omega, by rw [layI_same hm]; exact hh3⟩⟩

theorem clearP_neg {d : DM} (s : JS) (h : d.left < 0) : (clearP d s).1.left = d.left := by
  unfold clearP
  split
  · rfl
  · split
    · exact writeP_neg _ _ h
    · rfl
theorem commitJ_neg {d : DM} (s : JS) (ws : List (Int × List Int)) (h : d.left < 0) : (commitJ d s ws).1.left = d.left := by
  have h1 := clearP_neg s h
  have h2 : (commitW d s ws).1.left = d.left := by unfold commitW; rw [writeP_neg _ _ (by rw [h1]; exact h), h1]
  have h3 : (commitH d s ws).1.left = d.left := by unfold commitH; rw [writeP_neg _ _ (by rw [h2]; exact h), h2]
  have h0 : (commit0 d s ws).1.left = d.left := by
    unfold commit0
    split
    · rfl
    · split
      · rfl
      · split
        · rfl
        · split
          · rfl
          · split
            · exact h1
            · split
              · exact h2
              · exact h3
  unfold commitJ
  split
  · rfl
  · exact h0
theorem liveJ_small {d : DM} {s : JS} {now : List ByteArray} {k : Nat} (h : LiveJ d s now k) : smallD d ∧ d.n ≤ 480 ∧ 64 ≤ d.n := by
  obtain ⟨f, a, hs, hcl, _⟩ := h
  exact ⟨still_small hs, hcl.size.2, hcl.size.1⟩

/-! ### The beginning -/
theorem beginD_still {n : Nat} (h : 64 ≤ n) (h2 : n ≤ 480) : Still (beginD n) (layI (fun _ => zeros64) [(1, headBlock ⟨0, 1⟩)]) ∧ (beginD n).n = n ∧ (beginD n).left < 0 := by
  have hs : Still (freshD n) (fun _ => zeros64) := ⟨rfl, fun _ => rfl⟩
  have hf : Fit (freshD n).n [((1 : Int), headBlock ⟨0, 1⟩)] := fit_of fun p hp => by
    rw [List.mem_singleton.1 hp]
    exact ⟨headBlock_length _, by decide, by show (1 : Int) < (n : Int); omega⟩
  have hl : (freshD n).left < 0 := by show (-1 : Int) < 0; decide
  rcases group_ways hs.1 hs.some hf with ⟨p1, p2, p3, p4, p5⟩ | ⟨p1, _⟩
  · rw [hs.cur] at p3
    exact ⟨p3, p4, by show (barRes _).1.left < 0; rw [p5 hl]; exact hl⟩
  · omega
theorem beginD_rec {n : Nat} (h : 64 ≤ n) (h2 : n ≤ 480) : RecJ (beginD n) (List.replicate n zeroS) (List.replicate n zeroS) 0 := by
  obtain ⟨h1, hn, _⟩ := beginD_still h h2
  have hH : HoldsF n (fun _ => zeros64) (List.replicate n zeroS) := ⟨by simp, fun i hi _ => by rw [List.getElem?_replicate, if_pos hi]; rfl⟩
  refine ⟨by rw [hn]; simp, by rw [hn]; simp, by decide, by rw [hn]; exact ⟨h, h2⟩, _, h1, 0, 1, Or.inl ⟨?_, by decide, Or.inl (by rw [hn]; exact hH.mix (mix_lay _ _) one_off)⟩⟩
  rw [hn]
  refine { len := (mix_lay _ _).lens (fun _ => by decide) (fun p hp => by rw [List.mem_singleton.1 hp]; exact headBlock_length _), head := (getHead_block (s := ⟨0, 1⟩) (by decide)).1, a40 := by decide, q1 := by decide, none := ?_, size := ⟨h, h2⟩ }
  rw [(mix_lay _ _).off (fun p hp => by rw [List.mem_singleton.1 hp]; show 1 ≠ 19 + 0; decide)]
  exact zeros_not_beg

def journalGood : JournalGood mJ where
  Live := LiveJ
  Dead := DeadJ
  Rec := RecJ
  live_small := liveJ_small
  dead_small := fun ⟨_, h2, h3, h4, h5, _⟩ => ⟨h2, h5.2, h5.1, h3, h4⟩
  rec_small := fun ⟨h1, h2, _, h4, f, hs, _⟩ => ⟨still_small hs, h4.2, h4.1, h1, h2⟩
  live_holds := fun {d s now k} h => by
    obtain ⟨f, a, hs, hcl, ha, hq, hk1, hg, hh⟩ := h
    refine ⟨hh.1, fun i hi => ?_⟩
    show (readJ d s (i : Int)).2 = 0 ∧ (homeB (i : Int) = true → now[i]? = some (str (readJ d s (i : Int)).1))
    rw [readJ_still hs hg hi]
    exact ⟨rfl, hh.2 i hi⟩
  live_same := fun {d s x y k} h hxy => by
    obtain ⟨f, a, hs, hcl, ha, hq, hk1, hg, hh⟩ := h
    refine ⟨f, a, hs, hcl, ha, hq, hk1, hg, by rw [← hxy.1]; exact hh.1, fun i hi hi2 => ?_⟩
    rw [← hxy.2 i (by rw [hh.1]; exact hi) hi2]
    exact hh.2 i hi hi2
  begins := fun n h1 h2 => by
    obtain ⟨b1, b2, b3⟩ := beginD_still h1 h2
    obtain ⟨o1, o2⟩ := opensJ (beginD_rec h1 h2)
    rcases o2 with ⟨s, x, p1, p2, p3, p4⟩ | ⟨_, p2, _⟩
    · have ex : x = List.replicate n zeroS := p2.elim id id
      rw [ex] at p3
      exact ⟨s, p1, p3, by show (openJ (beginD n)).1.left < 0; rw [p4 b3]; exact b3, by show (openJ (beginD n)).1.n = n; rw [o1, b2]⟩
    · omega
  head := fun {d s now k} h => by
    obtain ⟨f, a, hs, hcl, _⟩ := h
    show 0 < s.seq
    have := hcl.q1
    omega
  commit_no := fun {d s now k ws} h hk hc => by
    have e := commit_no_J h hk hc
    show (commitJ d s ws).2.2 = _ ∧ (commitJ d s ws).1.n = _ ∧ (commitJ d s ws).1.left = _ ∧ LiveJ (commitJ d s ws).1 (commitJ d s ws).2.1 now k
    rw [e]
    exact ⟨rfl, rfl, rfl, h⟩
  commit_yes := fun {d s now k ws} h hk hc hne => by
    obtain ⟨h1, h2⟩ := commit_yes_J h hk hc hne
    exact ⟨h1, h2.imp (fun h => ⟨h.1, h.2.1⟩) id⟩
  commit_left := fun {d s now k ws} h hl => by
    show (commitJ d s ws).1.left < 0
    rw [commitJ_neg s ws hl]
    exact hl
  dead_commit := fun {d s a b k ws} h => by
    show (commitJ d s ws).2.2 = 8 ∧ (commitJ d s ws).1.n = d.n ∧ DeadJ (commitJ d s ws).1 (commitJ d s ws).2.1 a b k
    have e : commitJ d s ws = (d, s, 8) := by
      unfold commitJ
      rw [if_pos h.1]
      rfl
    rw [e]
    exact ⟨rfl, rfl, h⟩
  live_fail := fun {d s now k} n h => by
    obtain ⟨f, a, hs, h⟩ := h
    exact ⟨f, a, ⟨hs.1, hs.2⟩, h⟩
  dead_fail := fun {d s a b k} n h => by
    obtain ⟨h1, h2, h3, h4, h5, h6⟩ := h
    exact ⟨h1, h2, h3, h4, h5, fun ks => h6 ks⟩
  live_restart := fun {d s now k} ks h => by
    obtain ⟨f, a, hs, hcl, ha, hq, hk1, hg, hh⟩ := h
    exact ⟨hh.1, hh.1, hk1, hcl.size, f, still_restarted hs ks, a, s.seq, Or.inl ⟨hcl, hq, Or.inl hh⟩⟩
  dead_restart := fun {d s a b k} ks h => h.2.2.2.2.2 ks
  rec_fail := fun {d a b k} n h => by
    obtain ⟨h1, h2, h3, h4, f, hs, h⟩ := h
    exact ⟨h1, h2, h3, h4, f, ⟨hs.1, hs.2⟩, h⟩
  opens := fun {d a b k} h => by
    obtain ⟨h1, h2⟩ := opensJ h
    refine ⟨h1, ?_⟩
    rcases h2 with ⟨s, x, p1, p2, p3, _⟩ | h2
    · exact Or.inl ⟨s, x, p1, p2, p3⟩
    · exact Or.inr h2
  opens_left := fun {d a b k} h hl => by
    obtain ⟨h1, h2⟩ := opensJ h
    show (openJ d).1.left < 0
    rcases h2 with ⟨s, x, p1, p2, p3, p4⟩ | ⟨_, p2, _⟩
    · rw [p4 hl]
      exact hl
    · omega
  looks := fun {d a b k} h => looksJ h
end Go.Proofs.Ytbnepjojfaeggaa
