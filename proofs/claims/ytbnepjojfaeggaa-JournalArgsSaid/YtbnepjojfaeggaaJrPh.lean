/-
  Proved here: what groups of writes, each behind a barrier, leave on a disk, and where they may be torn: in plain words. Nothing is proved of the program here. Proved here: what look reads off a settled disk: in plain words. Nothing is proved of the program here. Proved here: texts that an image holds, while blocks are laid over it; commits that a journal takes: in plain words. Nothing is proved of the program here.
-/
import Derived.Test.YtbnepjojfaeggaaJrWrite
import Derived.Test.YtbnepjojfaeggaaJrRows
import Derived.Test.YtbnepjojfaeggaaJrFirst
namespace Go.Proofs.Ytbnepjojfaeggaa
set_option linter.unusedVariables false
set_option linter.unusedSimpArgs false

/-- The newest contents of a block. -/
def curD (d : DM) (k : Nat) : List Int := (d.hist k).getLastD []
/-- Blocks laid over an image, in order. -/
def layI (f : Nat → List Int) (ws : List (Int × List Int)) : Nat → List Int := ws.foldl (fun g p k => if k = p.1.toNat then p.2 else g k) f
def layG (f : Nat → List Int) (gs : List (List (Int × List Int))) : Nat → List Int := gs.foldl layI f
theorem layI_cons (f : Nat → List Int) (p : Int × List Int) (r : List (Int × List Int)) : layI f (p :: r) = layI (fun k => if k = p.1.toNat then p.2 else f k) r := rfl
theorem layG_cons (f : Nat → List Int) (g : List (Int × List Int)) (r : List (List (Int × List Int))) : layG f (g :: r) = layG (layI f g) r := rfl
/-- Each content of a block is one of its elder ones, or one of a list's. -/
def Mixed (f : Nat → List (List Int)) (ws : List (Int × List Int)) (d : DM) : Prop :=
  ∀ k, d.hist k ≠ [] ∧ ∀ c ∈ d.hist k, c ∈ f k ∨ ∃ p ∈ ws, p.1.toNat = k ∧ c = p.2

theorem curD_add (s : DM) (a : Nat) (z : List Int) : curD (addW s a z) = fun k => if k = a then z else curD s k := by
  funext k
  unfold curD addW
  by_cases h : k = a
  · simp [h]
  · simp [h]
theorem curD_step (s : DM) : curD (step1 s) = curD s := rfl
theorem step1_off (s : DM) : (step1 s).off = s.off := rfl
theorem step1_n (s : DM) : (step1 s).n = s.n := rfl
theorem step1_left (s : DM) (h : s.left < 0) : (step1 s).left = s.left := by
  unfold step1
  simp only
  rw [if_neg (by omega)]
theorem step1_left' (s : DM) : (step1 s).left ≤ s.left := by
  unfold step1
  simp only
  split <;> omega

/-- What a list of writes leaves: all of it, or a part where the power went. -/
theorem putAll_ways : ∀ (ws : List (Int × List Int)) (s : DM), s.off = false → (∀ k, s.hist k ≠ []) →
    ((putAll s ws).1.n = s.n ∧ Mixed s.hist ws (putAll s ws).1 ∧ (s.left < 0 → (putAll s ws).1.left = s.left)) ∧
    (((putAll s ws).2 = 0 ∧ (putAll s ws).1.off = false ∧ curD (putAll s ws).1 = layI (curD s) ws) ∨ ((putAll s ws).2 = 8 ∧ (putAll s ws).1.off = true ∧ 0 ≤ s.left))
  | [], s, ho, hne => ⟨⟨rfl, fun k => ⟨hne k, fun c hc => Or.inl hc⟩, fun _ => rfl⟩, Or.inl ⟨rfl, ho, rfl⟩⟩
  | (a, z) :: r, s, ho, hne => by
    unfold putAll
    by_cases h0 : s.left = 0
    · rw [if_pos h0]
      exact ⟨⟨rfl, fun k => ⟨hne k, fun c hc => Or.inl hc⟩, fun _ => rfl⟩, Or.inr ⟨rfl, rfl, by omega⟩⟩
    · rw [if_neg h0]
      have hne2 : ∀ k, (addW (step1 s) a.toNat z).hist k ≠ [] := fun k => by
        unfold addW step1
        simp only
        split
        · simp
        · exact hne k
      obtain ⟨⟨i1, i2, i3⟩, i4⟩ := putAll_ways r (addW (step1 s) a.toNat z) ho hne2
      refine ⟨⟨i1, fun k => ⟨(i2 k).1, fun c hc => ?_⟩, fun hl => ?_⟩, ?_⟩
      · rcases (i2 k).2 c hc with h | ⟨p, hp, hk, hc⟩
        · unfold addW step1 at h
          simp only at h
          split at h
          · next hk =>
            rcases List.mem_append.1 h with h | h
            · exact Or.inl h
            · exact Or.inr ⟨(a, z), List.mem_cons_self .., hk.symm, by simpa using h⟩
          · exact Or.inl h
        · exact Or.inr ⟨p, List.mem_cons_of_mem _ hp, hk, hc⟩
      · have e : (addW (step1 s) a.toNat z).left = s.left := step1_left s hl
        rw [i3 (by rw [e]; exact hl), e]
      · rcases i4 with ⟨j1, j2, j3⟩ | ⟨j1, j2, j3⟩
        · refine Or.inl ⟨j1, j2, ?_⟩
          rw [j3, curD_add, curD_step, layI_cons]
        · refine Or.inr ⟨j1, j2, ?_⟩
          have e : (addW (step1 s) a.toNat z).left ≤ s.left := step1_left' s
          omega

/-- No power lost, each block settled: its one content. -/
def Still (d : DM) (f : Nat → List Int) : Prop := d.off = false ∧ ∀ k, d.hist k = [f k]
/-- Torn within a group: the power is gone. -/
def Torn (d : DM) (f : Nat → List Int) (g : List (Int × List Int)) : Prop := d.off = true ∧ Mixed (fun k => [f k]) g d
/-- A group that a disk of n blocks takes. -/
def Fit (n : Nat) (g : List (Int × List Int)) : Prop := badLen g = false ∧ badAt n g = false

/-- One group and its barrier, from any contents: settled, or the power went. -/
theorem group_ways {s : DM} {g : List (Int × List Int)} (ho : s.off = false) (hne : ∀ k, s.hist k ≠ []) (hf : Fit s.n g) :
    ((putRes s g).2 = 0 ∧ (barRes (putRes s g).1).2 = 0 ∧ Still (barRes (putRes s g).1).1 (layI (curD s) g) ∧ (barRes (putRes s g).1).1.n = s.n ∧ (s.left < 0 → (barRes (putRes s g).1).1.left = s.left)) ∨
    (0 ≤ s.left ∧ (((putRes s g).2 = 8 ∧ (putRes s g).1.off = true ∧ (putRes s g).1.n = s.n ∧ Mixed s.hist g (putRes s g).1) ∨
      ((putRes s g).2 = 0 ∧ (barRes (putRes s g).1).2 = 8 ∧ (barRes (putRes s g).1).1.off = true ∧ (barRes (putRes s g).1).1.n = s.n ∧ Mixed s.hist g (barRes (putRes s g).1).1))) := by
  have e : putRes s g = putAll s g := by
    unfold putRes
    rw [if_neg (by rw [ho]; decide), if_neg (by rw [hf.1]; decide), if_neg (by rw [hf.2]; decide)]
  rw [e]
  obtain ⟨⟨i1, i2, i3⟩, i4⟩ := putAll_ways g s ho hne
  generalize putAll s g = r at *
  rcases i4 with ⟨j1, j2, j3⟩ | ⟨j1, j2, j3⟩
  · by_cases hl : r.1.left = 0
    · refine Or.inr ⟨?_, Or.inr ⟨j1, ?_⟩⟩
      · by_cases h : 0 ≤ s.left
        · exact h
        · have := i3 (by omega)
          omega
      · unfold barRes
        rw [if_neg (by rw [j2]; decide), if_pos hl]
        exact ⟨rfl, rfl, i1, i2⟩
    · refine Or.inl ⟨j1, ?_⟩
      unfold barRes
      rw [if_neg (by rw [j2]; decide), if_neg hl]
      refine ⟨rfl, ⟨j2, fun k => ?_⟩, i1, fun hs => ?_⟩
      · show [curD r.1 k] = [layI (curD s) g k]
        rw [j3]
      · show (step1 r.1).left = s.left
        rw [step1_left r.1 (by rw [i3 hs]; exact hs), i3 hs]
  · exact Or.inr ⟨j3, Or.inl ⟨j1, j2, i1, i2⟩⟩

theorem Still.cur {d : DM} {f : Nat → List Int} (h : Still d f) : curD d = f := by
  funext k
  unfold curD
  rw [h.2 k]
  rfl
theorem Still.some {d : DM} {f : Nat → List Int} (h : Still d f) : ∀ k, d.hist k ≠ [] := fun k => by rw [h.2 k]; simp

/-- Groups from a settled disk: all of them, or torn within one of them. -/
theorem writeP_ways : ∀ (gs : List (List (Int × List Int))) (s : DM) (f : Nat → List Int), Still s f → (∀ g ∈ gs, Fit s.n g) →
    (writeP s gs).1.n = s.n ∧ (((writeP s gs).2 = 0 ∧ Still (writeP s gs).1 (layG f gs) ∧ (s.left < 0 → (writeP s gs).1.left = s.left)) ∨
      ((writeP s gs).2 = 8 ∧ 0 ≤ s.left ∧ ∃ g1 g g2, gs = g1 ++ g :: g2 ∧ Torn (writeP s gs).1 (layG f g1) g))
  | [], s, f, h, _ => ⟨rfl, Or.inl ⟨rfl, h, fun _ => rfl⟩⟩
  | g :: r, s, f, h, hf => by
    have hw := group_ways (g := g) h.1 h.some (hf g (List.mem_cons_self ..))
    rw [h.cur] at hw
    have hm : ∀ D : DM, Mixed s.hist g D → Mixed (fun k => [f k]) g D := fun D hD k => ⟨(hD k).1, fun c hc => by have h1 := (hD k).2 c hc; rw [h.2 k] at h1; exact h1⟩
    unfold writeP
    rcases hw with ⟨p1, p2, p3, p4, p5⟩ | ⟨hl, ⟨p1, p2, p3, p4⟩ | ⟨p1, p2, p3, p4, p5⟩⟩
    · rw [if_neg (by rw [p1]; decide), if_neg (by rw [p2]; decide)]
      obtain ⟨i1, i2⟩ := writeP_ways r _ _ p3 (fun g' hg => by rw [p4]; exact hf g' (List.mem_cons_of_mem _ hg))
      refine ⟨by rw [i1, p4], ?_⟩
      rcases i2 with ⟨j1, j2, j3⟩ | ⟨j1, j2, g1, g', g2, j3, j4⟩
      · exact Or.inl ⟨j1, j2, fun hs => by rw [j3 (by rw [p5 hs]; exact hs), p5 hs]⟩
      · refine Or.inr ⟨j1, ?_, g :: g1, g', g2, by rw [j3]; rfl, j4⟩
        by_cases h : 0 ≤ s.left
        · exact h
        · have := p5 (by omega)
          omega
    · rw [if_pos (by rw [p1]; decide)]
      exact ⟨p3, Or.inr ⟨p1, hl, [], g, r, rfl, p2, hm _ p4⟩⟩
    · rw [if_neg (by rw [p1]; decide), if_pos (by rw [p2]; decide)]
      exact ⟨p4, Or.inr ⟨p2, hl, [], g, r, rfl, p3, hm _ p5⟩⟩

/-- A restart settles each block: on one of its contents. -/
theorem restarted_still (d : DM) (ks : List Int) : ∃ f, Still (restarted d ks) f ∧ ((∀ k, d.hist k ≠ []) → ∀ k, f k ∈ d.hist k) := by
  refine ⟨fun k => (d.hist k).getD (min (ks.getD k 0).toNat ((d.hist k).length - 1)) [], ⟨rfl, fun k => rfl⟩, fun hne k => ?_⟩
  have hl := List.length_pos_iff.2 (hne k)
  show (d.hist k).getD (min (ks.getD k 0).toNat ((d.hist k).length - 1)) [] ∈ d.hist k
  rw [List.getD_eq_getElem?_getD, List.getElem?_eq_getElem (by omega)]
  exact List.getElem_mem _
theorem torn_restarted {d : DM} {f : Nat → List Int} {g : List (Int × List Int)} (h : Torn d f g) (ks : List Int) : ∃ f2, Still (restarted d ks) f2 ∧ ∀ k, f2 k = f k ∨ ∃ p ∈ g, p.1.toNat = k ∧ f2 k = p.2 := by
  obtain ⟨f2, h1, h2⟩ := restarted_still d ks
  refine ⟨f2, h1, fun k => ?_⟩
  rcases (h.2 k).2 _ (h2 (fun k => (h.2 k).1) k) with h3 | h3
  · exact Or.inl (by simpa using h3)
  · exact Or.inr h3
theorem still_restarted {d : DM} {f : Nat → List Int} (h : Still d f) (ks : List Int) : Still (restarted d ks) f := by
  obtain ⟨f2, h1, h2⟩ := restarted_still d ks
  have e : f2 = f := by
    funext k
    have := h2 h.some k
    rw [h.2 k] at this
    simpa using this
  rw [e] at h1
  exact h1
end Go.Proofs.Ytbnepjojfaeggaa

namespace Go.Proofs.Ytbnepjojfaeggaa
set_option linter.unusedVariables false
set_option linter.unusedSimpArgs false

/-- The ring of an image. -/
def ringI (f : Nat → List Int) : List (List Int) := (List.range 40).map fun i => f (19 + i)
theorem ringI_length (f : Nat → List Int) : (ringI f).length = 40 := by unfold ringI; simp
theorem ringI_get (f : Nat → List Int) {i : Nat} (h : i < 40) : (ringI f).getD i [] = f (19 + i) := by
  unfold ringI
  rw [List.getD_eq_getElem?_getD]
  simp [h]
theorem still_out {d : DM} {f : Nat → List Int} (h : Still d f) {k : Nat} (hk : k < d.n) : diskOut d (k : Int) = f k := by
  have e : diskErr d (k : Int) = 0 := by
    unfold diskErr
    rw [if_neg (by rw [h.1]; decide), if_pos ⟨by omega, by omega⟩]
  unfold diskOut
  rw [if_pos e, Int.toNat_natCast, h.2 k]
  rfl
theorem still_curs {d : DM} {f : Nat → List Int} (h : Still d f) : curs d = (List.range d.n).map f := by
  unfold curs
  refine List.map_congr_left fun k hk => ?_
  exact still_out h (List.mem_range.1 hk)
theorem still_log {d : DM} {f : Nat → List Int} (h : Still d f) (hn : 64 ≤ d.n) : logD d = ringI f := by
  unfold logD ringI
  rw [still_curs h]
  refine List.ext_getElem? fun i => ?_
  by_cases hi : i < 40
  · rw [List.getElem?_take_of_lt hi, List.getElem?_drop, List.getElem?_map, List.getElem?_map, List.getElem?_range (by omega), List.getElem?_range hi]
    rfl
  · rw [List.getElem?_eq_none (by simp; omega), List.getElem?_eq_none (by simp; omega)]
theorem find_none (bs : List (List Int)) (k a : Nat) (s : Int) (h : txAt bs a s = none) : findL bs k a s = ([], a, s) := by
  cases k with
  | zero => rfl
  | succ k =>
    unfold findL
    rw [h]
theorem find_one {bs : List (List Int)} {k a : Nat} {s : Int} {l : List (Int × List Int)} (hk : 0 < k) (h : txAt bs a s = some l) (h2 : txAt bs ((a + (l.length + 2)) % 40) (s + 1) = none) : findL bs k a s = ([l], (a + (l.length + 2)) % 40, s + 1) := by
  obtain ⟨j, rfl⟩ : ∃ j, k = j + 1 := ⟨k - 1, by omega⟩
  unfold findL
  rw [h]
  show (l :: (findL bs j _ _).1, (findL bs j _ _).2) = _
  rw [find_none bs j _ _ h2]
theorem ring_ok {f : Nat → List Int} {a s : Int} (hl : ∀ k, (f k).length = 64) (ha : 0 ≤ a ∧ a ≤ 39) (hs : 1 ≤ s ∧ s ≤ 1073741824) : okLog (ringI f) a s = true := by
  unfold okLog
  rw [Bool.and_eq_true, decide_eq_true_eq]
  refine ⟨⟨ringI_length f, ha.1, ha.2, hs.1, hs.2⟩, List.all_eq_true.2 fun b hb => ?_⟩
  unfold ringI at hb
  obtain ⟨i, _, rfl⟩ := List.mem_map.1 hb
  exact decide_eq_true (hl _)
/-- What look reads off a settled disk. -/
theorem look_still {d : DM} {f : Nat → List Int} {a s : Int} (h : Still d f) (hn : 64 ≤ d.n) (hl : ∀ k, (f k).length = 64) (hh : getHead (f 1) = ⟨a, s⟩) (ha : 0 ≤ a ∧ a ≤ 39) (hs : 1 ≤ s ∧ s ≤ 1073741824) :
    lookE d = 0 ∧ lookR d = (List.range d.n).map f ∧ lookF d = ((findF (ringI f) a.toNat s).1, ((findF (ringI f) a.toNat s).2.1 : Int), (findF (ringI f) a.toNat s).2.2) := by
  have e : headD d = ⟨a, s⟩ := by
    unfold headD
    have := still_out h (k := 1) (by omega)
    rw [show diskOut d 1 = f 1 from this, hh]
  have hk := ring_ok (f := f) hl ha hs
  have h0 : lookE d = 0 := by
    unfold lookE foundErr
    rw [if_neg (by omega), if_neg (by rw [h.1]; decide), e, still_log h hn, if_pos hk]
  refine ⟨h0, ?_, ?_⟩
  · unfold lookR
    rw [if_pos h0, still_curs h]
  · unfold lookF foundOut
    rw [e, still_log h hn, if_pos hk]
/-- Nothing found: nothing is to be written, the head stays. -/
theorem look_none {d : DM} {f : Nat → List Int} {a : Nat} {s : Int} (h : Still d f) (hn : 64 ≤ d.n) (hl : ∀ k, (f k).length = 64) (hh : getHead (f 1) = ⟨(a : Int), s⟩) (ha : a ≤ 39) (hs : 1 ≤ s ∧ s ≤ 1073741824) (ht : txAt (ringI f) a s = none) :
    lookE d = 0 ∧ lookW d = [] ∧ lookH d = ((a : Int), s) := by
  obtain ⟨h1, _, h3⟩ := look_still h hn hl hh ⟨by omega, by omega⟩ hs
  have hf : findF (ringI f) a s = ([], a, s) := find_none _ _ _ _ ht
  rw [Int.toNat_natCast, hf] at h3
  refine ⟨h1, ?_, ?_⟩
  · unfold lookW
    rw [if_pos h1, h3]
    rfl
  · unfold lookH
    rw [if_pos h1, h3]
/-- One transaction found whole. -/
theorem look_one {d : DM} {f : Nat → List Int} {a : Nat} {s : Int} {l : List (Int × List Int)} (h : Still d f) (hn : 64 ≤ d.n) (hl : ∀ k, (f k).length = 64) (hh : getHead (f 1) = ⟨(a : Int), s⟩) (ha : a ≤ 39) (hs : 1 ≤ s ∧ s < 1073741824) (ht : txAt (ringI f) a s = some l) (h2 : txAt (ringI f) ((a + (l.length + 2)) % 40) (s + 1) = none) :
    lookE d = 0 ∧ lookW d = keepW (d.n : Int) l ∧ lookH d = ((((a + (l.length + 2)) % 40 : Nat) : Int), s + 1) := by
  obtain ⟨h1, _, h3⟩ := look_still h hn hl hh ⟨by omega, by omega⟩ ⟨hs.1, by omega⟩
  have hf : findF (ringI f) a s = ([l], (a + (l.length + 2)) % 40, s + 1) := find_one (by omega) ht h2
  rw [Int.toNat_natCast, hf] at h3
  refine ⟨h1, ?_, ?_⟩
  · unfold lookW
    rw [if_pos h1, h3]
    unfold flatK
    simp
  · unfold lookH
    rw [if_pos h1, h3]

/-- A transaction that stands whole in the ring is found there. -/
theorem tx_made {f : Nat → List Int} {a : Nat} {s : Int} {ws : List (Int × List Int)} (hs : soundD ⟨s, ws.map Prod.fst⟩ = true) (ha : a < 40) (h0 : f (19 + a) = begB ⟨s, ws.map Prod.fst⟩)
    (hd : ∀ (i : Nat) (p : Int × List Int), ws[i]? = some p → f (19 + (a + 1 + i) % 40) = p.2) (he : f (19 + (a + (ws.length + 1)) % 40) = endB s (ws.length : Int)) : txAt (ringI f) a s = some ws := by
  have hok : okEnd s (ws.length : Int) = true := by
    have h := (soundD_parts hs).1
    simp only [List.length_map] at h
    unfold okEnd
    exact decide_eq_true ⟨by omega, by omega, by omega, by omega⟩
  obtain ⟨r1, r2⟩ := read_end hok
  have e1 : (ringI f).getD a [] = begB ⟨s, ws.map Prod.fst⟩ := by rw [ringI_get f ha, h0]
  have e2 : (ringI f).getD ((a + (ws.length + 1)) % 40) [] = endB s (ws.length : Int) := by rw [ringI_get f (Nat.mod_lt _ (by decide)), he]
  unfold txAt
  rw [e1, read_beg hs]
  simp only [List.length_map]
  rw [e2, r1, r2, if_pos (by refine ⟨is_beg hs, ?_, is_end hok, ?_, ?_⟩ <;> first | trivial | rfl)]
  congr 1
  refine List.ext_getElem? fun i => ?_
  by_cases hi : i < ws.length
  · obtain ⟨p, hp⟩ : ∃ p, ws[i]? = some p := ⟨_, List.getElem?_eq_getElem hi⟩
    rw [List.getElem?_map, List.getElem?_range hi, hp]
    show some ((ws.map Prod.fst).getD i 0, (ringI f).getD ((a + 1 + i) % 40) []) = some p
    rw [ringI_get f (Nat.mod_lt _ (by decide)), hd i p hp, List.getD_eq_getElem?_getD, List.getElem?_map, hp]
    rfl
  · rw [List.getElem?_eq_none (by simp; omega), List.getElem?_eq_none (by omega)]
/-- Where no first block of the number stands, nothing is found. -/
theorem tx_no {f : Nat → List Int} {a : Nat} {s : Int} (ha : a < 40) (h : isBeg (f (19 + a)) = true → (readD (f (19 + a))).seq ≠ s) : txAt (ringI f) a s = none := by
  unfold txAt
  rw [ringI_get f ha]
  refine if_neg fun hc => ?_
  exact h hc.1 hc.2.1
/-- What a transaction's blocks say is told by the ring alone. -/
theorem tx_same {f g : Nat → List Int} (h : ∀ i, i < 40 → f (19 + i) = g (19 + i)) (a : Nat) (s : Int) : txAt (ringI f) a s = txAt (ringI g) a s := by
  have e : ringI f = ringI g := List.map_congr_left fun i hi => h i (List.mem_range.1 hi)
  rw [e]
/-- Laid over an image: the last write of a block, or what was there. -/
theorem layI_append (f : Nat → List Int) (xs ys : List (Int × List Int)) : layI f (xs ++ ys) = layI (layI f xs) ys := List.foldl_append ..
theorem layI_other (f : Nat → List Int) : ∀ (ws : List (Int × List Int)) (k : Nat), (∀ p ∈ ws, p.1.toNat ≠ k) → layI f ws k = f k
  | [], k, _ => rfl
  | p :: r, k, h => by
    rw [layI_cons, layI_other _ r k (fun q hq => h q (List.mem_cons_of_mem _ hq))]
    exact if_neg (fun e => h p (List.mem_cons_self ..) e.symm)
theorem layI_at (f : Nat → List Int) : ∀ (ws : List (Int × List Int)) (i : Nat) (p : Int × List Int), (ws.map fun q => q.1.toNat).Nodup → ws[i]? = some p → layI f ws p.1.toNat = p.2
  | [], i, p, _, h => by simp at h
  | q :: r, 0, p, hn, h => by
    obtain rfl : q = p := by simpa using h
    rw [List.map_cons, List.nodup_cons] at hn
    rw [layI_cons, layI_other _ r _ (fun x hx e => hn.1 (by rw [← e]; exact List.mem_map.2 ⟨x, hx, rfl⟩))]
    exact if_pos rfl
  | q :: r, i + 1, p, hn, h => by
    rw [List.map_cons, List.nodup_cons] at hn
    rw [layI_cons]
    exact layI_at _ r i p hn.2 (by simpa using h)
/-- A torn list of writes: each block's contents is what was there, or one of the writes. -/
theorem layI_mix (f : Nat → List Int) : ∀ (ws : List (Int × List Int)) (k : Nat), layI f ws k = f k ∨ ∃ p ∈ ws, p.1.toNat = k ∧ layI f ws k = p.2
  | [], k => Or.inl rfl
  | q :: r, k => by
    rw [layI_cons]
    rcases layI_mix (fun k => if k = q.1.toNat then q.2 else f k) r k with h | ⟨p, hp, hk, h⟩
    · rw [h]
      by_cases e : k = q.1.toNat
      · rw [if_pos e]
        exact Or.inr ⟨q, List.mem_cons_self .., e.symm, rfl⟩
      · rw [if_neg e]
        exact Or.inl rfl
    · exact Or.inr ⟨p, List.mem_cons_of_mem _ hp, hk, h⟩
end Go.Proofs.Ytbnepjojfaeggaa

namespace Go.Proofs.Ytbnepjojfaeggaa
set_option linter.unusedVariables false
set_option linter.unusedSimpArgs false

/-- The texts of an image's blocks, but for the log and the head. -/
def HoldsF (n : Nat) (f : Nat → List Int) (now : List ByteArray) : Prop := now.length = n ∧ ∀ i : Nat, i < n → homeB (i : Int) = true → now[i]? = some (str (f i))
theorem HoldsF.put1 {n : Nat} {f : Nat → List Int} {now : List ByteArray} (h : HoldsF n f now) {p : Int × List Int} (h0 : 0 ≤ p.1) (h1 : p.1 < n) : HoldsF n (fun k => if k = p.1.toNat then p.2 else f k) (putS1 now p) := by
  refine ⟨by rw [putS1_length]; exact h.1, fun i hi hh => ?_⟩
  unfold putS1
  rw [if_pos ⟨h0, by rw [h.1]; exact h1⟩, List.getElem?_set]
  by_cases e : p.1.toNat = i
  · rw [if_pos e, if_pos (by rw [h.1]; omega)]
    simp only
    rw [if_pos e.symm]
  · rw [if_neg e, h.2 i hi hh]
    simp only
    rw [if_neg (fun e2 => e e2.symm)]
theorem HoldsF.put {n : Nat} : ∀ (ws : List (Int × List Int)) {f : Nat → List Int} {now : List ByteArray}, HoldsF n f now → (∀ p ∈ ws, 0 ≤ p.1 ∧ p.1 < n) → HoldsF n (layI f ws) (putS now ws)
  | [], f, now, h, _ => h
  | p :: r, f, now, h, hw => by
    have hp := hw p (List.mem_cons_self ..)
    exact HoldsF.put r (h.put1 hp.1 hp.2) (fun q hq => hw q (List.mem_cons_of_mem _ hq))
/-- Blocks of the log and the head turn no text. -/
theorem HoldsF.off {n : Nat} {f g : Nat → List Int} {now : List ByteArray} (h : HoldsF n f now) (hg : ∀ i : Nat, homeB (i : Int) = true → g i = f i) : HoldsF n g now :=
  ⟨h.1, fun i hi hh => by rw [hg i hh]; exact h.2 i hi hh⟩
theorem HoldsF.lay_off {n : Nat} {f : Nat → List Int} {now : List ByteArray} (h : HoldsF n f now) {ws : List (Int × List Int)} (hw : ∀ p ∈ ws, homeB ((p.1.toNat : Nat) : Int) = false) : HoldsF n (layI f ws) now :=
  h.off (fun i hi => layI_other f ws i (fun p hp e => by
    have := hw p hp
    rw [e] at this
    rw [this] at hi
    cases hi))

/-- A commit that is taken. -/
theorem check_ok {ws : List (Int × List Int)} {n : Int} (h : checkW ws n = 0) (hne : ws ≠ []) :
    (∀ p ∈ ws, p.2.length = 64 ∧ p.1 < n ∧ homeB p.1 = true) ∧ (ws.map Prod.fst).Nodup ∧ (1 ≤ ws.length ∧ ws.length ≤ 20) ∧ ws.any (badW n) = false := by
  unfold checkW at h
  rw [if_neg hne] at h
  cases hb : ws.any (badW n) with
  | true => rw [hb, if_pos rfl] at h; cases h
  | false =>
    rw [hb, if_neg (by decide)] at h
    cases hs : soundD ⟨1, ws.map Prod.fst⟩ with
    | false => rw [hs, if_neg (by decide)] at h; cases h
    | true =>
      unfold soundD at hs
      rw [Bool.and_eq_true, Bool.and_eq_true, decide_eq_true_eq, decide_eq_true_eq] at hs
      simp only [List.length_map] at hs
      refine ⟨fun p hp => ?_, hs.2.2, ⟨hs.1.1, hs.1.2.1⟩, rfl⟩
      have h1 := List.any_eq_false.1 hb p hp
      unfold badW at h1
      rw [decide_eq_true_eq] at h1
      refine ⟨by omega, by omega, List.all_eq_true.1 hs.2.1 p.1 (List.mem_map.2 ⟨p, hp, rfl⟩)⟩
theorem sound_seq {to : List Int} {q : Int} (hq : 1 ≤ q ∧ q ≤ 1073741824) : soundD ⟨q, to⟩ = soundD ⟨1, to⟩ := by
  unfold soundD
  congr 1
  exact decide_eq_decide.2 ⟨fun h => ⟨h.1, h.2.1, by show (1 : Int) ≤ 1; decide, by show (1 : Int) ≤ 1073741824; decide⟩, fun h => ⟨h.1, h.2.1, hq.1, hq.2⟩⟩
/-- The landed journal's first block is refused where the document refuses the commit. -/
theorem first_check {ws : List (Int × List Int)} {n q : Int} (hne : ws ≠ []) (hq : 1 ≤ q ∧ q ≤ 1073741824) : firstErr n q ws = checkW ws n := by
  unfold firstErr checkW
  rw [if_neg hne, sound_seq hq]
theorem first_out {ws : List (Int × List Int)} {n q : Int} (hne : ws ≠ []) (hq : 1 ≤ q ∧ q ≤ 1073741824) (h : checkW ws n = 0) : firstOut n q ws = begB ⟨q, ws.map Prod.fst⟩ ∧ soundD ⟨q, ws.map Prod.fst⟩ = true := by
  have hb := (check_ok h hne).2.2.2
  rw [← first_check hne hq] at h
  unfold firstErr at h
  rw [if_neg (by rw [hb]; decide)] at h
  cases hs : soundD ⟨q, ws.map Prod.fst⟩ with
  | false => rw [hs, if_neg (by decide)] at h; cases h
  | true =>
    unfold firstOut
    rw [if_neg (by rw [hb]; decide), hs, if_pos rfl]
    exact ⟨rfl, rfl⟩
/-- More than twenty blocks are never taken. -/
theorem check_many {ws : List (Int × List Int)} {n : Int} (h : 20 < ws.length) : checkW ws n = 1 := by
  unfold checkW
  rw [if_neg (fun e => by rw [e] at h; simp at h)]
  split
  · rfl
  · rw [if_neg]
    intro hs
    have := (soundD_parts hs).1.2.1
    simp only [List.length_map] at this
    omega
end Go.Proofs.Ytbnepjojfaeggaa
