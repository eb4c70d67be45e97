/-
  Proved here: what the landed tree's Read answers of a map that was planned, whatever other blocks there are.
  The conditions stand at each theorem.
-/
import Derived.Test.YtdbkhhmadefccaaTrRead
import Derived.Test.YtdbkhhmadefccaaTrPlanOk
namespace Go.Proofs.Ytdbkhhmadefccaa
open Go.RowKit
set_option linter.unusedVariables false
set_option linter.unusedSimpArgs false

theorem plan_ok {l fs : List Int} (h : planErr l fs = 0) : ptrsOk l = true ∧ freshErr fs (needP l) l = 0 := by
  unfold planErr at h
  split at h
  case isFalse => exact absurd h (by decide)
  next hp => exact ⟨hp, h⟩

/-- The pages of a map that was planned. -/
theorem plan_pages {l fresh : List Int} (h : planErr l fresh = 0) (others : List (Int × List Int)) :
    pageAt (writesP l fresh ++ others) (singleP l fresh) = some (partP l 4 30) ∧ pageAt (writesP l fresh ++ others) (doubleP l fresh) = some ([under0 l fresh, under1 l fresh, under2 l fresh] ++ List.replicate 27 0) ∧
    pageAt (writesP l fresh ++ others) (under0 l fresh) = some (partP l 34 30) ∧ pageAt (writesP l fresh ++ others) (under1 l fresh) = some (partP l 64 30) ∧ pageAt (writesP l fresh ++ others) (under2 l fresh) = some (partP l 94 30) := by
  obtain ⟨hp, hf⟩ := plan_ok h
  obtain ⟨hn, hd, ha⟩ := fresh_ok hf
  unfold ptrsOk at hp
  rw [Bool.and_eq_true, decide_eq_true_eq] at hp
  obtain ⟨hl, hal⟩ := hp
  have hz := fresh_nz hn hd
  have hk := keys_plan hn
  have hnum := numbers_plan hz
  have hus := under_some hz
  have hnz : nzL (fresh.take (needP l)) = fresh.take (needP l) := by
    unfold nzL
    rw [List.filter_eq_self]
    intro x hx
    have := hd x hx
    unfold dataP at this
    unfold nzB
    simp only [decide_eq_true_eq] at this ⊢
    omega
  have hnd : (fresh.take (needP l)).Nodup := by
    have := (apart_append ha).2
    unfold apartL at this
    rw [hnz, Bool.and_eq_true, decide_eq_true_eq] at this
    exact this.2
  have hin : ∀ q B, (q, B) ∈ writesP l fresh → q ≠ 0 ∧ findW (writesP l fresh ++ others) q = some B := fun q B hq => by
    refine ⟨?_, find_key (by rw [hk]; exact hnd) hq others⟩
    have hm : q ∈ fresh.take (needP l) := by rw [← hk]; exact List.mem_map.2 ⟨_, hq, rfl⟩
    have := hd q hm
    unfold dataP at this
    simp only [decide_eq_true_eq] at this
    omega
  have hu : apartL [under0 l fresh, under1 l fresh, under2 l fresh] = true := by
    have e : nzL [singleP l fresh, doubleP l fresh, under0 l fresh, under1 l fresh, under2 l fresh] = nzL [singleP l fresh, doubleP l fresh] ++ nzL [under0 l fresh, under1 l fresh, under2 l fresh] := nz_append [_, _] [_, _, _]
    rw [hnum, hk] at e
    unfold apartL
    rw [Bool.and_eq_true, List.all_eq_true, decide_eq_true_eq]
    refine ⟨fun x hx => ?_, ?_⟩
    · by_cases hx0 : x = 0
      · rw [hx0]; decide
      · have : x ∈ fresh.take (needP l) := by
          rw [e]
          exact List.mem_append_right _ (List.mem_filter.2 ⟨hx, by simpa [nzB] using hx0⟩)
        have := hd x this
        unfold dataP at this
        unfold okP
        simp only [decide_eq_true_eq] at this ⊢
        omega
    · rw [e] at hnd
      exact (List.nodup_append.1 hnd).2.1
  have pg : ∀ (q : Int) (s : Nat), (someP l s 30 = false → q = 0) → (someP l s 30 = true → q ≠ 0 ∧ findW (writesP l fresh ++ others) q = some (pageB (partP l s 30))) → pageAt (writesP l fresh ++ others) q = some (partP l s 30) := fun q s h1 h2 => by
    have := page_when (bs := writesP l fresh ++ others) (b := someP l s 30) (q := q) (xs := partP l s 30) (by rw [partP_length]; omega) (part_apart hal hl s 30 (by omega)) rfl h1 h2
    rwa [partP_length, Nat.sub_self, List.replicate_zero, List.append_nil] at this
  refine ⟨pg _ 4 (fun e => when_false e) (fun e => hin _ _ (by unfold writesP whenW; simp [e])), ?_, pg _ 34 (fun e => when_false e) (fun e => hin _ _ (by unfold writesP whenW; simp [e])), pg _ 64 (fun e => when_false e) (fun e => hin _ _ (by unfold writesP whenW; simp [e])), pg _ 94 (fun e => when_false e) (fun e => hin _ _ (by unfold writesP whenW; simp [e]))⟩
  exact page_when (bs := writesP l fresh ++ others) (b := doubleB l) (q := doubleP l fresh) (xs := [under0 l fresh, under1 l fresh, under2 l fresh]) (by simp) hu hus (fun e => when_false e) (fun e => hin _ _ (by unfold writesP whenW; simp [e]))

theorem getD_i64 {zs : List Int} (h : ∀ z ∈ zs, I64 z) (k : Nat) : I64 (zs.getD k 0) := by
  by_cases hk : k < zs.length
  · rw [List.getD_eq_getElem?_getD, List.getElem?_eq_getElem hk]
    exact h _ (List.getElem_mem _)
  · rw [getD_behind _ _ (by omega)]
    exact ⟨by decide, by decide⟩

theorem when_i64 {b : Bool} {p : Int} (h : I64 p) : I64 (whenB b p) := by
  cases b with
  | false => show I64 0; exact ⟨by decide, by decide⟩
  | true => exact h

/-- Read of what was planned. -/
theorem ReadPlan_any {w : World} {ao : Option Addr} {m cap : Nat} {zs fs : List Int} {others : List (Int × List Int)} (h : planErr zs fs = 0) (hz : ∀ z ∈ zs, I64 z) (hf : ∀ z ∈ fs, I64 z) (hW : WIs w ao m (writesP zs fs ++ others)) :
    Calls Try.prog 15 #[nodeV 1 (zs.getD 0 0) (zs.getD 1 0) (zs.getD 2 0) (zs.getD 3 0) (singleP zs fs) (doubleP zs fs), .slice ao m cap] w fun e w' => ∃ v u, e = .returned (.tuple #[v, u, .int .i64 0]) ∧ FreshI w' w.heap.size v (trimL zs) ∧ FreshI w' w.heap.size u (fs.take (needP zs)) ∧ Below w.heap.size w w' := by
  obtain ⟨hp, hfe⟩ := plan_ok h
  obtain ⟨hn, hd, ha⟩ := fresh_ok hfe
  obtain ⟨p1, p2, p3, p4, p5⟩ := plan_pages h others
  have hl : zs.length ≤ 96 := by unfold ptrsOk at hp; rw [Bool.and_eq_true, decide_eq_true_eq] at hp; exact hp.1
  have hlist : partP zs 0 4 ++ (partP zs 4 30 ++ (partP zs 34 30 ++ (partP zs 64 30 ++ partP zs 94 30))) = zs ++ List.replicate (124 - zs.length) 0 := by
    have e := partP_all zs 124 (by omega)
    rw [show 124 = 4 + (30 + (30 + (30 + 30))) from rfl, ← partP_append zs 0 4, ← partP_append zs (0 + 4) 30, ← partP_append zs (0 + 4 + 30) 30, ← partP_append zs (0 + 4 + 30 + 30) 30] at e
    simp only [Nat.zero_add, Nat.reduceAdd] at e
    exact e
  have ht : trimL (partP zs 0 4 ++ (partP zs 4 30 ++ (partP zs 34 30 ++ (partP zs 64 30 ++ partP zs 94 30)))) = trimL zs := by rw [hlist, trim_append_zeros]
  have ho : nzL [singleP zs fs, doubleP zs fs, under0 zs fs, under1 zs fs, under2 zs fs] = fs.take (needP zs) := by rw [numbers_plan (fresh_nz hn hd), keys_plan hn]
  have h96 : (trimL zs).length ≤ 96 := by
    obtain ⟨n, he⟩ := trim_prefix zs
    have := congrArg List.length he
    rw [List.length_append] at this
    omega
  exact Read_any hW p1 p2 p3 p4 p5 ⟨fun z hz' => by
    simp only [List.mem_cons, List.mem_nil_iff, or_false] at hz'
    rcases hz' with rfl | rfl | rfl | rfl <;> exact getD_i64 hz _, when_i64 (getD_i64 hf _), when_i64 (getD_i64 hf _)⟩ ht ho h96 (by rw [apart_trim]; exact ha)

end Go.Proofs.Ytdbkhhmadefccaa
