/-
  Proved here: plain facts on arrays: two parts exchanged, two neighbouring parts turned round, equals that keep their order, merging by turning parts round, and sorting in blocks.
  No conditions but those that each theorem names. Nothing of the program is read here.
-/
import Derived.Sort.LotA
import Derived.Sort.LotD2
namespace Go.Proofs.Ytfhfjnfejcggcaa
open Go.Sort (swp SWO PermIn SortedIn size_swp swp_left swp_right swp_other swp_permIn permIn_refl permIn_trans permIn_mono permIn_all insInner insOuter insertionSort insertionSort_holds)

theorem swo_asym {α : Type} {lt : α → α → Bool} (hS : SWO lt) {x y : α} (h : lt x y = true) : lt y x = false := by
  cases h2 : lt y x with
  | false => rfl
  | true => have := hS.trans x y x h h2; rw [hS.irrefl] at this; cases this

/-- x' is not less than x; y is less than x; y is not less than y': y' is less than x'. -/
theorem swo_between {α : Type} {lt : α → α → Bool} (hS : SWO lt) {x x' y y' : α} (hx : lt x' x = false) (h : lt y x = true) (hy : lt y y' = false) : lt y' x' = true := by
  cases h2 : lt y' x' with
  | true => rfl
  | false =>
    have h3 := hS.ntrans _ _ _ (hS.ntrans _ _ _ hy h2) hx
    rw [h] at h3
    cases h3

section
variable {α : Type} [Inhabited α]

/-! ### Two parts exchanged -/

def sgm (a b n k : Nat) : Nat := if a ≤ k ∧ k < a + n then k - a + b else if b ≤ k ∧ k < b + n then k - b + a else k

def swapR (d : Array α) (a b : Nat) : Nat → Array α
  | 0 => d
  | n + 1 => swp (swapR d a b n) (a + n) (b + n)

theorem size_swapR (d : Array α) (a b : Nat) : ∀ n, (swapR d a b n).size = d.size
  | 0 => rfl
  | n + 1 => by show (swp (swapR d a b n) (a + n) (b + n)).size = _; rw [size_swp, size_swapR d a b n]

theorem at_same {d : Array α} {i j : Nat} (h : i = j) : d[i]! = d[j]! := by rw [h]

theorem swapR_get (d : Array α) (a b : Nat) : ∀ n, a + n ≤ b → b + n ≤ d.size → ∀ k, (swapR d a b n)[k]! = d[sgm a b n k]!
  | 0, _, _, k => by
    show d[k]! = _
    exact at_same (by unfold sgm; (repeat' split) <;> omega)
  | n + 1, h1, h2, k => by
    have ih := swapR_get d a b n (by omega) (by omega)
    have hs := size_swapR d a b n
    show (swp (swapR d a b n) (a + n) (b + n))[k]! = _
    by_cases e1 : k = a + n
    · subst e1
      rw [swp_left _ _ _ (by omega) (by omega), ih]
      exact at_same (by unfold sgm; (repeat' split) <;> omega)
    · by_cases e2 : k = b + n
      · subst e2
        rw [swp_right _ _ _ (by omega), ih]
        exact at_same (by unfold sgm; (repeat' split) <;> omega)
      · rw [swp_other _ _ _ _ e1 e2, ih]
        exact at_same (by unfold sgm; (repeat' split) <;> omega)

theorem swapR_perm (d : Array α) (lo hi a b : Nat) : ∀ n, lo ≤ a → lo ≤ b → a + n ≤ hi → b + n ≤ hi → hi ≤ d.size → PermIn lo hi d (swapR d a b n)
  | 0, _, _, _, _, _ => permIn_refl _ _ _
  | n + 1, h1, h2, h3, h4, h5 =>
    permIn_trans _ _ _ _ _ (swapR_perm d lo hi a b n h1 h2 (by omega) (by omega) h5) (swp_permIn _ _ _ _ _ (by omega) (by omega) (by omega) (by omega) (by rw [size_swapR]; exact h5))

/-! ### Two neighbouring parts turned round -/

def rho (s m e k : Nat) : Nat := if k < s ∨ e ≤ k then k else if k < s + (e - m) then k + m - s else k + m - e
/-- d' is d, but that the part from s to m and that from m to e are turned round. -/
def Rot (s m e : Nat) (d d' : Array α) : Prop := d'.size = d.size ∧ ∀ k, d'[k]! = d[rho s m e k]!

theorem rot_big {dk D : Array α} {m i j : Nat} (hji : j < i) (him : i ≤ m) (hs : m + j ≤ dk.size) (h : Rot (m - i + j) m (m + j) (swapR dk (m - i) m j) D) : Rot (m - i) m (m + j) dk D := by
  refine ⟨h.1.trans (size_swapR _ _ _ _), fun k => ?_⟩
  rw [h.2 k, swapR_get _ _ _ _ (by omega) hs]
  exact at_same (by unfold rho sgm; (repeat' split) <;> omega)

theorem rot_small {dk D : Array α} {m i j : Nat} (hij : i < j) (him : i ≤ m) (hs : m + j ≤ dk.size) (h : Rot (m - i) m (m + j - i) (swapR dk (m - i) (m + j - i) i) D) : Rot (m - i) m (m + j) dk D := by
  refine ⟨h.1.trans (size_swapR _ _ _ _), fun k => ?_⟩
  rw [h.2 k, swapR_get _ _ _ _ (by omega) (by omega)]
  exact at_same (by unfold rho sgm; (repeat' split) <;> omega)

theorem rot_even {dk : Array α} {m i : Nat} (him : i ≤ m) (hs : m + i ≤ dk.size) : Rot (m - i) m (m + i) dk (swapR dk (m - i) m i) := by
  refine ⟨size_swapR _ _ _ _, fun k => ?_⟩
  rw [swapR_get _ _ _ _ (by omega) hs]
  exact at_same (by unfold rho sgm; (repeat' split) <;> omega)

theorem rot_none (d : Array α) (s e : Nat) (h : s ≤ e) : Rot s s e d d ∧ Rot s e e d d :=
  ⟨⟨rfl, fun k => at_same (by unfold rho; (repeat' split) <;> omega)⟩, ⟨rfl, fun k => at_same (by unfold rho; (repeat' split) <;> omega)⟩⟩

/-- The part of one is moved one place up. -/
theorem rot_up {d dk : Array α} {a k : Nat} (hak : a ≤ k) (hs : k + 1 < d.size) (h : Rot a (a + 1) (k + 1) d dk) : Rot a (a + 1) (k + 2) d (swp dk k (k + 1)) := by
  have hz := h.1
  refine ⟨by rw [size_swp]; exact h.1, fun j => ?_⟩
  by_cases e1 : j = k
  · subst e1
    rw [swp_left _ _ _ (by omega) (by omega), h.2]
    exact at_same (by unfold rho; (repeat' split) <;> omega)
  · by_cases e2 : j = k + 1
    · subst e2
      rw [swp_right _ _ _ (by omega), h.2]
      exact at_same (by unfold rho; (repeat' split) <;> omega)
    · rw [swp_other _ _ _ _ e1 e2, h.2]
      exact at_same (by unfold rho; (repeat' split) <;> omega)

/-- The part of one is moved one place down. -/
theorem rot_down {d dk : Array α} {m k : Nat} (hkm : k + 1 ≤ m) (hs : m < d.size) (h : Rot (k + 1) m (m + 1) d dk) : Rot k m (m + 1) d (swp dk (k + 1) k) := by
  have hz := h.1
  refine ⟨by rw [size_swp]; exact h.1, fun j => ?_⟩
  by_cases e1 : j = k + 1
  · subst e1
    rw [swp_left _ _ _ (by omega) (by omega), h.2]
    exact at_same (by unfold rho; (repeat' split) <;> omega)
  · by_cases e2 : j = k
    · subst e2
      rw [swp_right _ _ _ (by omega), h.2]
      exact at_same (by unfold rho; (repeat' split) <;> omega)
    · rw [swp_other _ _ _ _ e1 e2, h.2]
      exact at_same (by unfold rho; (repeat' split) <;> omega)

/-! ### Equals keep their order -/

variable {lt : α → α → Bool} {R : α → α → Prop}

/-- Of two that are equal, the first one stands so to the second one. -/
def Stab (lt : α → α → Bool) (R : α → α → Prop) (d : Array α) : Prop := ∀ i j, i < j → j < d.size → lt d[j]! d[i]! = false → lt d[i]! d[j]! = false → R d[i]! d[j]!

theorem stab_rot {d d' : Array α} {s m e : Nat} (hsm : s ≤ m) (hme : m ≤ e) (he : e ≤ d.size) (h : Rot s m e d d') (hl : ∀ i j, s ≤ i → i < m → m ≤ j → j < e → lt d[j]! d[i]! = true) (hst : Stab lt R d) : Stab lt R d' := by
  intro i j hij hj h1 h2
  rw [h.1] at hj
  rw [h.2 i, h.2 j] at h1 h2 ⊢
  have hc : rho s m e i < rho s m e j ∨ (m ≤ rho s m e i ∧ rho s m e i < e ∧ s ≤ rho s m e j ∧ rho s m e j < m) := by unfold rho; (repeat' split) <;> omega
  have hq : rho s m e j < d.size := by unfold rho; (repeat' split) <;> omega
  rcases hc with hc | ⟨a1, a2, a3, a4⟩
  · exact hst _ _ hc hq h1 h2
  · rw [hl _ _ a3 a4 a1 a2] at h2
    cases h2

theorem swp_rot {d : Array α} {j : Nat} (hj : j + 1 < d.size) : Rot j (j + 1) (j + 2) d (swp d (j + 1) j) :=
  rot_down (m := j + 1) (k := j) (Nat.le_refl _) hj (rot_none d (j + 1) (j + 2) (by omega)).1

theorem ins_inner_stab (a : Nat) : ∀ (j : Nat) (d : Array α), j < d.size → Stab lt R d → Stab lt R (insInner lt a j d)
  | 0, d, _, h => by unfold insInner; exact h
  | j + 1, d, hj, h => by
    unfold insInner
    split
    · rename_i hc
      simp only [Bool.and_eq_true] at hc
      refine ins_inner_stab a j _ (by rw [size_swp]; omega) (stab_rot (by omega) (by omega) (by omega) (swp_rot hj) ?_ h)
      intro i k h1 h2 h3 h4
      rw [show i = j by omega, show k = j + 1 by omega]
      exact hc.2
    · exact h

theorem ins_inner_size (a : Nat) : ∀ (j : Nat) (d : Array α), (insInner lt a j d).size = d.size
  | 0, d => by unfold insInner; rfl
  | j + 1, d => by
    unfold insInner
    split
    · rw [ins_inner_size a j, size_swp]
    · rfl

theorem ins_outer_stab (a b : Nat) : ∀ (n i : Nat) (d : Array α), b - i = n → b ≤ d.size → Stab lt R d → Stab lt R (insOuter lt a b i d)
  | 0, i, d, hn, _, h => by
    rw [insOuter, if_neg (by omega)]
    exact h
  | n + 1, i, d, hn, hb, h => by
    rw [insOuter, if_pos (by omega)]
    exact ins_outer_stab a b n (i + 1) _ (by omega) (by rw [ins_inner_size]; exact hb) (ins_inner_stab a i d (by omega) h)

theorem insertion_stab {d : Array α} {a b : Nat} (hb : b ≤ d.size) (h : Stab lt R d) : Stab lt R (insertionSort lt d a b) := ins_outer_stab a b _ _ d rfl hb h

/-! ### Merging -/

theorem sorted_le (hS : SWO lt) {a b i j : Nat} {d : Array α} (h : SortedIn lt a b d) (h1 : a ≤ i) (h2 : i ≤ j) (h3 : j < b) : lt d[j]! d[i]! = false := by
  by_cases e : i = j
  · rw [e]; exact hS.irrefl _
  · exact h i j h1 (by omega) h3

/-- One element put into the sorted ones behind it. -/
theorem ins_left (hS : SWO lt) {d d' : Array α} {a b i : Nat} (hai : a + 1 ≤ i) (hib : i ≤ b) (hb : b ≤ d.size) (hs : SortedIn lt (a + 1) b d) (hst : Stab lt R d) (h1 : i = a + 1 ∨ lt d[i - 1]! d[a]! = true) (h2 : i = b ∨ lt d[i]! d[a]! = false) (hr : Rot a (a + 1) i d d') :
    SortedIn lt a b d' ∧ Stab lt R d' := by
  have f1 : ∀ k, a + 1 ≤ k → k < i → lt d[k]! d[a]! = true := fun k k1 k2 => by
    rcases h1 with h1 | h1
    · omega
    · exact swo_between hS (hS.irrefl _) h1 (sorted_le hS hs k1 (by omega) (by omega))
  have f2 : ∀ k, i ≤ k → k < b → lt d[k]! d[a]! = false := fun k k1 k2 => by
    rcases h2 with h2 | h2
    · omega
    · exact hS.ntrans _ _ _ (sorted_le hS hs hai k1 k2) h2
  refine ⟨fun p q hp hpq hq => ?_, stab_rot (by omega) hai (by omega) hr (fun p q p1 p2 q1 q2 => by rw [show p = a by omega]; exact f1 q q1 q2) hst⟩
  rw [hr.2 p, hr.2 q]
  have hc : (rho a (a + 1) i p = p + 1 ∧ p + 1 < i) ∨ (rho a (a + 1) i p = a ∧ p + 1 = i) ∨ (rho a (a + 1) i p = p ∧ i ≤ p) := by unfold rho; (repeat' split) <;> omega
  have hd : (rho a (a + 1) i q = q + 1 ∧ q + 1 < i) ∨ (rho a (a + 1) i q = a ∧ q + 1 = i) ∨ (rho a (a + 1) i q = q ∧ i ≤ q) := by unfold rho; (repeat' split) <;> omega
  rcases hc with ⟨e1, c1⟩ | ⟨e1, c1⟩ | ⟨e1, c1⟩ <;> rcases hd with ⟨e2, c2⟩ | ⟨e2, c2⟩ | ⟨e2, c2⟩ <;> rw [e1, e2]
  · exact hs _ _ (by omega) (by omega) (by omega)
  · exact swo_asym hS (f1 _ (by omega) (by omega))
  · exact hs _ _ (by omega) (by omega) (by omega)
  · omega
  · omega
  · exact f2 _ (by omega) (by omega)
  · omega
  · omega
  · exact hs _ _ (by omega) (by omega) (by omega)

/-- One element put into the sorted ones ahead of it. -/
theorem ins_right (hS : SWO lt) {d d' : Array α} {a m i : Nat} (hai : a ≤ i) (him : i ≤ m) (hb : m < d.size) (hs : SortedIn lt a m d) (hst : Stab lt R d) (h1 : i = a ∨ lt d[m]! d[i - 1]! = false) (h2 : i = m ∨ lt d[m]! d[i]! = true) (hr : Rot i m (m + 1) d d') :
    SortedIn lt a (m + 1) d' ∧ Stab lt R d' := by
  have f1 : ∀ k, a ≤ k → k < i → lt d[m]! d[k]! = false := fun k k1 k2 => by
    rcases h1 with h1 | h1
    · omega
    · exact hS.ntrans _ _ _ h1 (sorted_le hS hs k1 (by omega) (by omega))
  have f2 : ∀ k, i ≤ k → k < m → lt d[m]! d[k]! = true := fun k k1 k2 => by
    rcases h2 with h2 | h2
    · omega
    · exact swo_between hS (sorted_le hS hs hai k1 k2) h2 (hS.irrefl _)
  refine ⟨fun p q hp hpq hq => ?_, stab_rot him (by omega) (by omega) hr (fun p q p1 p2 q1 q2 => by rw [show q = m by omega]; exact f2 p p1 p2) hst⟩
  rw [hr.2 p, hr.2 q]
  have hc : (rho i m (m + 1) p = p ∧ p < i) ∨ (rho i m (m + 1) p = m ∧ p = i) ∨ (rho i m (m + 1) p = p - 1 ∧ i < p) := by unfold rho; (repeat' split) <;> omega
  have hd : (rho i m (m + 1) q = q ∧ q < i) ∨ (rho i m (m + 1) q = m ∧ q = i) ∨ (rho i m (m + 1) q = q - 1 ∧ i < q) := by unfold rho; (repeat' split) <;> omega
  rcases hc with ⟨e1, c1⟩ | ⟨e1, c1⟩ | ⟨e1, c1⟩ <;> rcases hd with ⟨e2, c2⟩ | ⟨e2, c2⟩ | ⟨e2, c2⟩ <;> rw [e1, e2]
  · exact hs _ _ (by omega) (by omega) (by omega)
  · exact f1 _ (by omega) (by omega)
  · exact hs _ _ (by omega) (by omega) (by omega)
  · omega
  · omega
  · exact swo_asym hS (f2 _ (by omega) (by omega))
  · omega
  · omega
  · exact hs _ _ (by omega) (by omega) (by omega)

/-- What is so when the two middle parts are turned round: the first half and the second one are sorted in two parts each, and nothing of the second is less than anything of the first. -/
def Halved (lt : α → α → Bool) (R : α → α → Prop) (a s mid e b : Nat) (d : Array α) : Prop :=
  Stab lt R d ∧ SortedIn lt a s d ∧ SortedIn lt s mid d ∧ SortedIn lt mid e d ∧ SortedIn lt e b d ∧ ∀ i j, a ≤ i → i < mid → mid ≤ j → j < b → lt d[j]! d[i]! = false

theorem halved (hS : SWO lt) {d d' : Array α} {a m b s mid e : Nat} (hb : b ≤ d.size) (he : s + e = mid + m) (h1 : a ≤ s) (h2 : s ≤ m) (h3 : s ≤ mid) (h4 : m ≤ e) (h5 : mid ≤ e) (h6 : e ≤ b) (s1 : SortedIn lt a m d) (s2 : SortedIn lt m b d) (hst : Stab lt R d)
    (F1 : a < s → e < b → lt d[e]! d[s - 1]! = false) (F2 : s < m → m < e → lt d[e - 1]! d[s]! = true) (hr : Rot s m e d d') : Halved lt R a s mid e b d' := by
  have fl : ∀ i j, s ≤ i → i < m → m ≤ j → j < e → lt d[j]! d[i]! = true := fun i j i1 i2 j1 j2 =>
    swo_between hS (sorted_le hS s1 h1 i1 i2) (F2 (by omega) (by omega)) (sorted_le hS s2 j1 (by omega) (by omega))
  have fo : ∀ i j, a ≤ i → i < s → e ≤ j → j < b → lt d[j]! d[i]! = false := fun i j i1 i2 j1 j2 =>
    hS.ntrans _ _ _ (hS.ntrans _ _ _ (sorted_le hS s2 h4 j1 j2) (F1 (by omega) (by omega))) (sorted_le hS s1 i1 (by omega) (by omega))
  have g : ∀ k, (k < s → rho s m e k = k) ∧ (s ≤ k → k < mid → rho s m e k = k + m - s) ∧ (mid ≤ k → k < e → rho s m e k = k + m - e) ∧ (e ≤ k → rho s m e k = k) := fun k => by
    refine ⟨fun _ => ?_, fun _ _ => ?_, fun _ _ => ?_, fun _ => ?_⟩ <;> unfold rho <;> (repeat' split) <;> omega
  refine ⟨stab_rot h2 h4 (by omega) hr fl hst, fun i j i1 ij j1 => ?_, fun i j i1 ij j1 => ?_, fun i j i1 ij j1 => ?_, fun i j i1 ij j1 => ?_, fun i j i1 i2 j1 j2 => ?_⟩
  · rw [hr.2 i, hr.2 j, (g i).1 (by omega), (g j).1 (by omega)]
    exact s1 _ _ (by omega) (by omega) (by omega)
  · rw [hr.2 i, hr.2 j, (g i).2.1 (by omega) (by omega), (g j).2.1 (by omega) (by omega)]
    exact s2 _ _ (by omega) (by omega) (by omega)
  · rw [hr.2 i, hr.2 j, (g i).2.2.1 (by omega) (by omega), (g j).2.2.1 (by omega) (by omega)]
    exact s1 _ _ (by omega) (by omega) (by omega)
  · rw [hr.2 i, hr.2 j, (g i).2.2.2 (by omega), (g j).2.2.2 (by omega)]
    exact s2 _ _ (by omega) (by omega) (by omega)
  · rw [hr.2 i, hr.2 j]
    by_cases ci : i < s
    · rw [(g i).1 ci]
      by_cases cj : j < e
      · rw [(g j).2.2.1 j1 cj]
        exact sorted_le hS s1 i1 (by omega) (by omega)
      · rw [(g j).2.2.2 (by omega)]
        exact fo _ _ i1 ci (by omega) j2
    · rw [(g i).2.1 (by omega) i2]
      by_cases cj : j < e
      · rw [(g j).2.2.1 j1 cj]
        exact swo_asym hS (fl _ _ (by omega) (by omega) (by omega) (by omega))
      · rw [(g j).2.2.2 (by omega)]
        exact sorted_le hS s2 (by omega) (by omega) j2

theorem sorted_same {a b : Nat} {d d' : Array α} (h : SortedIn lt a b d) (he : ∀ k, a ≤ k → k < b → d'[k]! = d[k]!) : SortedIn lt a b d' := fun i j h1 h2 h3 => by
  rw [he i h1 (by omega), he j (by omega) h3]
  exact h i j h1 h2 h3

/-- Two halves, each sorted by itself. -/
theorem glue_halves {d1 d2 d3 : Array α} {a mid b : Nat} (ham : a ≤ mid) (hmb : mid ≤ b) (hb : b ≤ d1.size) (hc : ∀ i j, a ≤ i → i < mid → mid ≤ j → j < b → lt d1[j]! d1[i]! = false) (p2 : PermIn a mid d1 d2) (s2 : SortedIn lt a mid d2) (p3 : PermIn mid b d2 d3) (s3 : SortedIn lt mid b d3) :
    PermIn a b d1 d3 ∧ SortedIn lt a b d3 := by
  have z2 : d2.size = d1.size := p2.1
  refine ⟨permIn_trans _ _ _ _ _ (permIn_mono _ _ _ _ _ _ (Nat.le_refl _) hmb hb p2) (permIn_mono _ _ _ _ _ _ ham (Nat.le_refl _) (by omega) p3), fun i j h1 h2 h3 => ?_⟩
  by_cases cj : j < mid
  · rw [p3.2.1 i (Or.inl (by omega)), p3.2.1 j (Or.inl cj)]
    exact s2 i j h1 h2 cj
  · by_cases ci : i < mid
    · have c2 : ∀ i j, a ≤ i → i < mid → mid ≤ j → j < b → lt d2[j]! d2[i]! = false := fun i j i1 i2 j1 j2 => by
        rw [p2.2.1 j (Or.inr j1)]
        exact permIn_all _ _ _ _ (fun x => lt d1[j]! x = false) (by omega) p2 (fun k k1 k2 => hc k j k1 k2 j1 j2) i i1 i2
      rw [p3.2.1 i (Or.inl ci)]
      exact permIn_all _ _ _ _ (fun x => lt x d2[i]! = false) (by omega) p3 (fun k k1 k2 => c2 i k h1 ci k1 k2) j (by omega) h3
    · exact s3 i j (by omega) h2 h3

/-! ### Sorting in blocks -/

/-- Each block of bs that begins from lo on and below hi is sorted, as far as it lies below n. -/
def Blocks (lt : α → α → Bool) (bs lo hi n : Nat) (d : Array α) : Prop := ∀ k, lo ≤ k * bs → k * bs < hi → SortedIn lt (k * bs) (min (k * bs + bs) n) d

theorem blocks_none (bs n : Nat) (d : Array α) : Blocks lt bs 0 0 n d := fun k _ h => by omega

/-- One more block. -/
theorem blocks_more {bs q n : Nat} {d d' : Array α} (h : Blocks lt bs 0 (q * bs) n d) (hp : PermIn (q * bs) (q * bs + bs) d d') (hs : SortedIn lt (q * bs) (q * bs + bs) d') : Blocks lt bs 0 ((q + 1) * bs) n d' := by
  intro k _ hk
  rcases Nat.lt_trichotomy k q with h1 | h1 | h1
  · have h2 : (k + 1) * bs ≤ q * bs := Nat.mul_le_mul_right bs h1
    rw [Nat.add_mul, Nat.one_mul] at h2
    have hb : 0 < bs := by
      rcases Nat.eq_zero_or_pos bs with h | h
      · subst h; simp at hk
      · exact h
    refine sorted_same (h k (Nat.zero_le _) (by omega)) (fun i i1 i2 => hp.2.1 i (Or.inl (by omega)))
  · subst h1
    exact fun i j i1 ij j1 => hs i j i1 ij (by omega)
  · have h2 : (q + 1) * bs ≤ k * bs := Nat.mul_le_mul_right bs h1
    omega

/-- The last block. -/
theorem blocks_last {bs q n : Nat} {d d' : Array α} (h : Blocks lt bs 0 (q * bs) n d) (hn : n ≤ q * bs + bs) (hp : PermIn (q * bs) n d d') (hs : SortedIn lt (q * bs) n d') : Blocks lt bs 0 n n d' := by
  intro k _ hk
  rcases Nat.lt_trichotomy k q with h1 | h1 | h1
  · have h2 : (k + 1) * bs ≤ q * bs := Nat.mul_le_mul_right bs h1
    rw [Nat.add_mul, Nat.one_mul] at h2
    by_cases hb : bs = 0
    · subst hb
      intro i j i1 ij j1
      simp at j1
    · refine sorted_same (h k (Nat.zero_le _) (by omega)) (fun i i1 i2 => hp.2.1 i (Or.inl (by omega)))
  · subst h1
    exact fun i j i1 ij j1 => hs i j i1 ij (by omega)
  · have h2 : (q + 1) * bs ≤ k * bs := Nat.mul_le_mul_right bs h1
    rw [Nat.add_mul, Nat.one_mul] at h2
    omega

/-- What lies ahead is left as it was. -/
theorem blocks_ahead {bs lo lo' hi n b : Nat} {d d' : Array α} (h : Blocks lt bs lo hi n d) (hl : lo ≤ lo') (hb : b ≤ lo') (he : ∀ i, b ≤ i → d'[i]! = d[i]!) : Blocks lt bs lo' hi n d' := fun k h1 h2 =>
  sorted_same (h k (by omega) h2) (fun i i1 _ => he i (by omega))

theorem two_blocks {q bs : Nat} : (2 * q) * bs = q * (2 * bs) ∧ (2 * q + 1) * bs = q * (2 * bs) + bs := by
  have e : (2 * q) * bs = q * (2 * bs) := by rw [Nat.mul_comm 2 q, Nat.mul_assoc]
  exact ⟨e, by rw [Nat.add_mul, Nat.one_mul, e]⟩

/-- The two blocks that are merged next. -/
theorem blocks_two {bs q n : Nat} {d : Array α} (h : Blocks lt bs (q * (2 * bs)) n n d) (hb : q * (2 * bs) + 2 * bs ≤ n) (h0 : 0 < bs) : SortedIn lt (q * (2 * bs)) (q * (2 * bs) + bs) d ∧ SortedIn lt (q * (2 * bs) + bs) (q * (2 * bs) + 2 * bs) d := by
  obtain ⟨e1, e2⟩ := two_blocks (q := q) (bs := bs)
  have h1 := h (2 * q) (by omega) (by omega)
  have h2 := h (2 * q + 1) (by omega) (by omega)
  rw [e1] at h1
  rw [e2] at h2
  exact ⟨fun i j i1 ij j1 => h1 i j i1 ij (by omega), fun i j i1 ij j1 => h2 i j i1 ij (by omega)⟩

/-- The two at the end, of which the second one is short. -/
theorem blocks_two_last {bs q n : Nat} {d : Array α} (h : Blocks lt bs (q * (2 * bs)) n n d) (hb : q * (2 * bs) + bs < n) (hn : n ≤ q * (2 * bs) + 2 * bs) (h0 : 0 < bs) : SortedIn lt (q * (2 * bs)) (q * (2 * bs) + bs) d ∧ SortedIn lt (q * (2 * bs) + bs) n d := by
  obtain ⟨e1, e2⟩ := two_blocks (q := q) (bs := bs)
  have h1 := h (2 * q) (by omega) (by omega)
  have h2 := h (2 * q + 1) (by omega) (by omega)
  rw [e1] at h1
  rw [e2] at h2
  exact ⟨fun i j i1 ij j1 => h1 i j i1 ij (by omega), fun i j i1 ij j1 => h2 i j i1 ij (by omega)⟩

/-- One block at the end. -/
theorem blocks_one_last {bs q n : Nat} {d : Array α} (h : Blocks lt bs (q * (2 * bs)) n n d) (hn : n ≤ q * (2 * bs) + bs) : SortedIn lt (q * (2 * bs)) n d := by
  obtain ⟨e1, _⟩ := two_blocks (q := q) (bs := bs)
  by_cases hq : q * (2 * bs) < n
  · have h1 := h (2 * q) (by omega) (by omega)
    rw [e1] at h1
    exact fun i j i1 ij j1 => h1 i j i1 ij (by omega)
  · exact fun i j i1 ij j1 => by omega

/-- One block as long as all. -/
theorem blocks_all {bs n : Nat} {d : Array α} (h : Blocks lt bs 0 n n d) (hn : n ≤ bs) : SortedIn lt 0 n d := by
  by_cases h0 : 0 < n
  · have h1 := h 0 (Nat.zero_le _) (by omega)
    rw [Nat.zero_mul] at h1
    exact fun i j i1 ij j1 => h1 i j i1 ij (by omega)
  · exact fun i j i1 ij j1 => by omega

end

end Go.Proofs.Ytfhfjnfejcggcaa
