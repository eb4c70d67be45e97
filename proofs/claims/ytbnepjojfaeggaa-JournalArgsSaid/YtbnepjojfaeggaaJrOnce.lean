/-
  Proved here: the landed journal in plain words, opened twice, whatever lies on the disk; and on disks without a log.
  Nothing is proved of the program here.
-/
import Derived.Test.YtbnepjojfaeggaaJrGd
import Derived.Test.YtbnepjojfaeggaaJAgain
import Derived.Test.YtbnepjojfaeggaaJArgs
namespace Go.Proofs.Ytbnepjojfaeggaa
open Go.RowKit
set_option linter.unusedVariables false
set_option linter.unusedSimpArgs false

/-! ### Finding again -/
theorem find_again (bs : List (List Int)) : ∀ (k a : Nat) (s : Int), findL bs (k - (findL bs k a s).1.length) (findL bs k a s).2.1 (findL bs k a s).2.2 = ([], (findL bs k a s).2.1, (findL bs k a s).2.2)
  | 0, a, s => rfl
  | k + 1, a, s => by
    cases hx : txAt bs a s with
    | none =>
      have e : findL bs (k + 1) a s = ([], a, s) := by unfold findL; rw [hx]
      rw [e]
      show findL bs (k + 1 - 0) a s = _
      rw [Nat.sub_zero, e]
    | some l =>
      have e : findL bs (k + 1) a s = (l :: (findL bs k ((a + (l.length + 2)) % 40) (s + 1)).1, (findL bs k ((a + (l.length + 2)) % 40) (s + 1)).2) := by
        conv => lhs; unfold findL
        rw [hx]
      rw [e]
      have ih := find_again bs k ((a + (l.length + 2)) % 40) (s + 1)
      show findL bs (k + 1 - ((findL bs k _ _).1.length + 1)) _ _ = _
      rw [Nat.add_sub_add_right]
      exact ih
theorem find_le (bs : List (List Int)) : ∀ (k a : Nat) (s : Int), (findL bs k a s).1.length ≤ k
  | 0, a, s => Nat.le_refl _
  | k + 1, a, s => by
    unfold findL
    cases hx : txAt bs a s with
    | none => exact Nat.zero_le _
    | some l =>
      have := find_le bs k ((a + (l.length + 2)) % 40) (s + 1)
      show (findL bs k _ _).1.length + 1 ≤ k + 1
      omega
theorem findF_again {bs : List (List Int)} {a : Nat} {s : Int} (ha : a < 40) (hs : s ≤ 1073741824) :
    (findF bs a s).2.1 < 40 ∧ s ≤ (findF bs a s).2.2 ∧ (findF bs a s).2.2 ≤ 1073741824 ∧ findF bs (findF bs a s).2.1 (findF bs a s).2.2 = ([], (findF bs a s).2.1, (findF bs a s).2.2) := by
  unfold findF
  obtain ⟨h1, h2⟩ := find_sums bs (1073741824 - s).toNat a s ha
  have h3 := find_le bs (1073741824 - s).toNat a s
  have h4 := find_again bs (1073741824 - s).toNat a s
  have h40 : (findL bs (1073741824 - s).toNat a s).2.1 < 40 := by rw [h2]; exact mod40 _
  have e : (1073741824 - (findL bs (1073741824 - s).toNat a s).2.2).toNat = (1073741824 - s).toNat - (findL bs (1073741824 - s).toNat a s).1.length := by omega
  rw [e]
  exact ⟨h40, by omega, by omega, h4⟩
/-- What is found is to be written at home, and lies in the ring. -/
theorem tx_home {bs : List (List Int)} {a : Nat} {s : Int} {l : List (Int × List Int)} (h : txAt bs a s = some l) : ∀ p ∈ l, homeB p.1 = true ∧ ∃ j, j < 40 ∧ p.2 = bs.getD j [] := by
  unfold txAt at h
  split at h
  · next hc =>
    have hs := (isBeg_block hc.1).2.1
    unfold soundD at hs
    rw [Bool.and_eq_true, Bool.and_eq_true, decide_eq_true_eq] at hs
    simp only [Option.some.injEq] at h
    subst h
    intro p hp
    obtain ⟨i, hi, rfl⟩ := List.mem_map.1 hp
    have hi := List.mem_range.1 hi
    refine ⟨?_, _, mod40 (a + 1 + i), rfl⟩
    rw [List.getD_eq_getElem?_getD, List.getElem?_eq_getElem hi]
    exact List.all_eq_true.1 hs.2.1 _ (List.getElem_mem hi)
  · cases h
theorem find_home (bs : List (List Int)) : ∀ (k a : Nat) (s : Int), ∀ l ∈ (findL bs k a s).1, ∀ p ∈ l, homeB p.1 = true ∧ ∃ j, j < 40 ∧ p.2 = bs.getD j []
  | 0, a, s => fun l h => by cases h
  | k + 1, a, s => fun l h => by
    unfold findL at h
    cases hx : txAt bs a s with
    | none => rw [hx] at h; cases h
    | some y =>
      rw [hx] at h
      rcases List.mem_cons.1 h with rfl | h
      · exact tx_home hx
      · exact find_home bs k _ _ l h

/-! ### Looking -/
/-- Look reads what Get answers, no more. -/
theorem look_same {D E : DM} (hn : D.n = E.n) (h1 : 1 < D.n) (ho : D.off = E.off) (hk : ∀ k : Nat, k < D.n → diskOut D (k : Int) = diskOut E (k : Int)) : lookE D = lookE E ∧ lookW D = lookW E ∧ lookH D = lookH E ∧ lookR D = lookR E := by
  have hc : curs D = curs E := by
    unfold curs
    rw [← hn]
    exact List.map_congr_left fun k hk2 => hk k (List.mem_range.1 hk2)
  have hl : logD D = logD E := by unfold logD; rw [hc]
  have hh : headD D = headD E := congrArg getHead (hk 1 h1)
  have hE : lookE D = lookE E := by unfold lookE; rw [hn, ho, hl, hh]
  have hF : lookF D = lookF E := by unfold lookF; rw [hl, hh]
  refine ⟨hE, ?_, ?_, ?_⟩
  · unfold lookW; rw [hE, hF, hn]
  · unfold lookH; rw [hE, hF]
  · unfold lookR; rw [hE, hc]
theorem cur_out {D : DM} (ho : D.off = false) {k : Nat} (hk : k < D.n) : diskOut D (k : Int) = curD D k := by
  unfold diskOut
  rw [diskErr_ok hk ho, if_pos rfl, Int.toNat_natCast]
  rfl
theorem last_out {D : DM} (ho : D.off = false) {k : Nat} (hk : k < D.n) : diskOut (lastOnly D) (k : Int) = diskOut D (k : Int) := by
  rw [cur_out (D := lastOnly D) ho hk, cur_out ho hk]
  rfl
theorem last_still {D : DM} (ho : D.off = false) : Still (lastOnly D) (curD D) := ⟨ho, fun k => rfl⟩
theorem cur_len {D : DM} (hok : D.Ok) (k : Nat) : (curD D k).length = 64 := by
  obtain ⟨h1, h2⟩ := hok k
  unfold curD
  rw [List.getLastD_eq_getLast?, List.getLast?_eq_some_getLast h1]
  exact (h2 _ (List.getLast_mem h1)).1
theorem getHead_sound {zs : List Int} (h : getHeadErr zs = 0) : (getHead zs).sound = true := by
  unfold getHeadErr at h
  split at h
  · next hh =>
    unfold getHead
    rw [if_pos hh]
    exact (isHead_block hh).1
  · cases h
/-- What look reads of a disk with power whose log is sound. -/
theorem look_open {D : DM} (hn : 64 ≤ D.n) (ho : D.off = false) (hok : D.Ok) (hE : lookE D = 0) :
    (∀ p ∈ lookW D, p.2.length = 64 ∧ homeB p.1 = true ∧ p.1 < (D.n : Int)) ∧ lookR D = (List.range D.n).map (curD D) ∧ ∃ a : Nat, a < 40 ∧ (lookH D).1 = (a : Int) ∧ 1 ≤ (lookH D).2 ∧ (lookH D).2 ≤ 1073741824 ∧ findF (ringI (curD D)) a (lookH D).2 = ([], a, (lookH D).2) := by
  have hs := last_still ho
  obtain ⟨s1, s2, s3, s4⟩ := look_same (D := D) (E := lastOnly D) rfl (by omega) rfl (fun k hk => (last_out ho hk).symm)
  have hLog : logD D = ringI (curD D) := by
    have := still_log hs hn
    have e : curs (lastOnly D) = curs D := by
      unfold curs
      exact List.map_congr_left fun k hk => last_out ho (List.mem_range.1 hk)
    unfold logD at this ⊢
    rw [e] at this
    exact this
  have hokl : okLog (logD D) (headD D).a (headD D).b = true := by
    have h := hE
    unfold lookE foundErr at h
    rw [if_neg (by omega), if_neg (by rw [ho]; decide)] at h
    split at h
    · next h2 => exact h2
    · cases h
  have hb := hokl
  unfold okLog at hb
  rw [Bool.and_eq_true, decide_eq_true_eq] at hb
  obtain ⟨⟨_, b1, b2, b3, b4⟩, _⟩ := hb
  have eF : lookF D = ((findF (ringI (curD D)) (headD D).a.toNat (headD D).b).1, ((findF (ringI (curD D)) (headD D).a.toNat (headD D).b).2.1 : Int), (findF (ringI (curD D)) (headD D).a.toNat (headD D).b).2.2) := by
    unfold lookF foundOut
    rw [if_pos hokl, hLog]
  obtain ⟨g1, g2, g3, g4⟩ := findF_again (bs := ringI (curD D)) (a := (headD D).a.toNat) (s := (headD D).b) (by omega) b4
  refine ⟨fun p hp => ?_, ?_, _, g1, ?_, ?_, ?_, ?_⟩
  · unfold lookW at hp
    rw [if_pos hE, eF] at hp
    unfold flatK at hp
    obtain ⟨l, hl, hp⟩ := List.mem_flatten.1 hp
    obtain ⟨l0, hl0, rfl⟩ := List.mem_map.1 hl
    unfold keepW at hp
    obtain ⟨hp1, hp2⟩ := List.mem_filter.1 hp
    rw [decide_eq_true_eq] at hp2
    obtain ⟨q1, j, q2, q3⟩ := find_home _ _ _ _ l0 hl0 p hp1
    refine ⟨?_, q1, hp2⟩
    rw [q3, ringI_get _ q2]
    exact cur_len hok _
  · unfold lookR
    rw [if_pos hE]
    unfold curs
    exact List.map_congr_left fun k hk => cur_out ho (List.mem_range.1 hk)
  · unfold lookH
    rw [if_pos hE, eF]
  · unfold lookH
    rw [if_pos hE, eF]
    dsimp only
    omega
  · unfold lookH
    rw [if_pos hE, eF]
    exact g3
  · unfold lookH
    rw [if_pos hE, eF]
    exact g4

/-! ### Open where the power does not go -/
theorem open_neg {D : DM} (hn : 64 ≤ D.n) (ho : D.off = false) (hok : D.Ok) (hl : D.left < 0) (hE : lookE D = 0) :
    (openJ D).2 = (some ⟨(lookH D).1, (lookH D).2, false⟩, 0) ∧ (openJ D).1.n = D.n ∧ (openJ D).1.left < 0 ∧ Still (openJ D).1 (layI (layI (curD D) (lookW D)) [(1, headBlock ⟨(lookH D).1, (lookH D).2⟩)]) := by
  obtain ⟨hW, hR, a, ha, e1, e2, e3, e4⟩ := look_open hn ho hok hE
  have h0 := group_ways (s := D) (g := []) ho (fun k => (hok k).1) ⟨rfl, rfl⟩
  rcases h0 with ⟨p1, p2, p3, p4, p5⟩ | ⟨p1, _⟩
  · have p5 := p5 hl
    obtain ⟨D1, hD1⟩ : ∃ D1, (barRes (putRes D []).1).1 = D1 := ⟨_, rfl⟩
    rw [hD1] at p3 p4 p5
    have p3 : Still D1 (curD D) := p3
    have eW : writeP D (openG D) = writeP D1 [lookW D, [(1, headBlock ⟨(lookH D).1, (lookH D).2⟩)]] := by
      rw [← hD1]
      unfold openG
      conv => lhs; unfold writeP
      rw [if_neg (by rw [p1]; decide), if_neg (by rw [p2]; decide)]
    obtain ⟨w1, w2⟩ := writeP_ways [lookW D, [(1, headBlock ⟨(lookH D).1, (lookH D).2⟩)]] D1 _ p3 (fun g hg => fit_of fun p hp => by
      simp only [List.mem_cons, List.not_mem_nil, or_false] at hg
      rw [p4]
      rcases hg with rfl | rfl
      · have := hW p hp
        exact ⟨this.1, (home_ne this.2.1).1, this.2.2⟩
      · rw [List.mem_singleton.1 hp]
        exact ⟨headBlock_length _, by show (0 : Int) ≤ 1; decide, by show (1 : Int) < _; omega⟩)
    rw [← eW] at w1 w2
    rcases w2 with ⟨q1, q2, q3⟩ | ⟨_, q2, _⟩
    · have e : openJ D = ((writeP D (openG D)).1, some ⟨(lookH D).1, (lookH D).2, false⟩, 0) := by
        unfold openJ
        rw [if_neg (by rw [hE]; decide), if_neg (by rw [q1]; decide)]
      rw [e]
      exact ⟨rfl, by rw [w1, p4], by show (writeP D (openG D)).1.left < 0; rw [q3 (by omega)]; omega, q2⟩
    · omega
  · omega
theorem open_err {D : DM} (hE : lookE D ≠ 0) : openJ D = (D, none, lookE D) := by unfold openJ; rw [if_pos hE]

theorem still_ok {d : DM} {f : Nat → List Int} (hs : Still d f) (hl : ∀ k, (f k).length = 64) (hb : ∀ k, ∀ z ∈ f k, 0 ≤ z ∧ z ≤ 255) : d.Ok := fun k => by
  rw [hs.2 k]
  refine ⟨by simp, fun c hc => ?_⟩
  rw [List.mem_singleton.1 hc]
  exact ⟨hl k, hb k⟩

theorem journalOnce : JournalOnce mJ where
  again := fun D hn hl ho hok hsm => by
    show (lookJ D).2 = (openJ D).2.2 ∧ (((lookJ D).2 ≠ 0 ∧ (openJ D).2.1 = none) ∨ ((lookJ D).2 = 0 ∧ (lookJ D).1.length = 480 ∧ ∃ s, (openJ D).2.1 = some s ∧
      ∀ ks, smallD (restarted (openJ D).1 ks) ∧ ∃ D4 s2, openJ (restarted (openJ D).1 ks) = (D4, some s2, 0) ∧ headJ s2 = headJ s ∧ ∀ i : Nat, i < 480 → (readJ D4 s2 (i : Int)).2 = 0 ∧ (i ≠ 1 → (lookJ D).1[i]? = some (readJ D4 s2 (i : Int)).1)))
    by_cases hE : lookE D = 0
    · obtain ⟨hW, hR, a, ha, e1, e2, e3, e4⟩ := look_open (by omega) ho hok hE
      obtain ⟨o1, o2, o3, o4⟩ := open_neg (by omega) ho hok hl hE
      obtain ⟨f, hf⟩ : ∃ f, layI (layI (curD D) (lookW D)) [(1, headBlock ⟨(lookH D).1, (lookH D).2⟩)] = f := ⟨_, rfl⟩
      rw [hf] at o4
      have eJ : (lookJ D).1 = (List.range 480).map (layI (curD D) (lookW D)) := by
        show layR (lookR D) (lookW D) = _
        rw [hR, layR_lay, hn]
      refine ⟨by rw [o1]; exact hE, Or.inr ⟨hE, by rw [eJ]; simp, _, by rw [o1], fun ks => ?_⟩⟩
      have hr := still_restarted o4 ks
      have hf1 : f 1 = headBlock ⟨(lookH D).1, (lookH D).2⟩ := by rw [← hf]; rfl
      have hfo : ∀ k, k ≠ 1 → f k = layI (curD D) (lookW D) k := fun k hk => by
        rw [← hf]
        exact (mix_lay _ _).off (fun p hp => by rw [List.mem_singleton.1 hp]; exact fun e => hk e.symm)
      have hlen : ∀ k, (f k).length = 64 := by
        rw [← hf]
        exact (mix_lay _ _).lens ((mix_lay _ _).lens (cur_len hok) (fun p hp => (hW p hp).1)) (fun p hp => by rw [List.mem_singleton.1 hp]; exact headBlock_length _)
      have hring : ringI f = ringI (curD D) := by
        refine List.map_congr_left fun i hi => ?_
        have hi := List.mem_range.1 hi
        rw [hfo _ (by omega)]
        exact (mix_lay _ _).off (fun p hp => by have := (home_ne (hW p hp).2.1).2.2.2; omega)
      have hnr : (restarted (openJ D).1 ks).n = 480 := by rw [still_restart_n, o2, hn]
      have hhd : getHead (f 1) = ⟨(lookH D).1, (lookH D).2⟩ := by
        rw [hf1]
        exact (getHead_block (s := ⟨(lookH D).1, (lookH D).2⟩) (by unfold PHead.sound; rw [decide_eq_true_eq]; dsimp only; omega)).1
      rw [e1] at hhd
      obtain ⟨l1, _, l3⟩ := look_still hr (by omega) hlen hhd ⟨by omega, by omega⟩ ⟨e2, e3⟩
      rw [Int.toNat_natCast, hring, e4] at l3
      have l2 : lookW (restarted (openJ D).1 ks) = [] := by
        unfold lookW
        rw [if_pos l1, l3]
        rfl
      have l4 : lookH (restarted (openJ D).1 ks) = lookH D := by
        have e : lookH D = ((a : Int), (lookH D).2) := by rw [← e1]
        unfold lookH at e ⊢
        rw [if_pos l1, l3]
        exact e.symm
      obtain ⟨h1, h2⟩ := open_still hr (by omega) l1 (fun p hp => by rw [l2] at hp; cases hp)
      refine ⟨still_small hr, ?_⟩
      rcases h2 with ⟨p1, p2, _⟩ | ⟨_, p2, _⟩
      · rw [l4] at p1
        rw [l2, l4] at p2
        have p2 : Still (openJ (restarted (openJ D).1 ks)).1 (layI f [(1, headBlock ⟨(lookH D).1, (lookH D).2⟩)]) := p2
        refine ⟨(openJ (restarted (openJ D).1 ks)).1, _, by rw [← p1], rfl, fun i hi => ?_⟩
        rw [readJ_still p2 rfl (by rw [h1, hnr]; exact hi)]
        refine ⟨rfl, fun hi1 => ?_⟩
        rw [eJ, range_get _ hi, ← hfo i hi1]
        congr 1
        exact ((mix_lay _ _).off (fun p hp => by rw [List.mem_singleton.1 hp]; exact fun e => hi1 e.symm)).symm
      · have p2 : (0 : Int) ≤ -1 := p2
        omega
    · refine ⟨by rw [open_err hE]; rfl, Or.inl ⟨hE, by rw [open_err hE]⟩⟩

theorem journalBad : JournalBad mJ where
  small := fun n h1 h2 => by
    have e := look_small h2
    refine ⟨e, ?_⟩
    show (openJ (freshD n)).2.2 = 1
    rw [open_err (by rw [e]; decide), e]
  fresh := fun n h1 h2 => by
    have e := look_fresh h1
    refine ⟨e, ?_⟩
    show openJ (freshD n) = (freshD n, none, 2)
    rw [open_err (by rw [e]; decide), e]
  form := fun n y h1 h2 hy hb => by
    have e := look_form h1 hy
    refine ⟨e, ?_⟩
    show (openJ (addW (step1 (freshD n)) 1 y)).2.2 = getHeadErr y
    by_cases hE : lookE (addW (step1 (freshD n)) 1 y) = 0
    · have hok : (addW (step1 (freshD n)) 1 y).Ok := fun k => by
        have h := fresh_ok n k
        show (if k = 1 then (freshD n).hist k ++ [y] else (freshD n).hist k) ≠ [] ∧ ∀ c ∈ (if k = 1 then (freshD n).hist k ++ [y] else (freshD n).hist k), _
        split
        · refine ⟨by simp, fun c hc => ?_⟩
          rcases List.mem_append.1 hc with hc | hc
          · exact h.2 c hc
          · rw [List.mem_singleton.1 hc]
            exact ⟨hy, hb⟩
        · exact h
      obtain ⟨o1, _⟩ := open_neg (D := addW (step1 (freshD n)) 1 y) h1 rfl hok (by show (if (0 : Int) < -1 then (-1 : Int) - 1 else -1) < 0; decide) hE
      rw [o1, ← e, hE]
    · rw [open_err hE, e]
end Go.Proofs.Ytbnepjojfaeggaa
