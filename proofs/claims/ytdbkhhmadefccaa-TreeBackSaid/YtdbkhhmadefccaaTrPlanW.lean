/-
  Proved here: what the landed tree's Plan answers of sound pointers.
  The conditions stand at each theorem.
-/
import Derived.Test.YtdbkhhmadefccaaTrPlan
namespace Go.Proofs.Ytdbkhhmadefccaa
open Go.RowKit
set_option linter.unusedVariables false
set_option linter.unusedSimpArgs false

theorem node_end {fn : Func} (h : fn.results = #[.cell 4 32, .tmp 5, .tmp 6]) (tmps : Array Value) (g : Nat) (w w1 : World) (f a b c d s t : Int) (v u : Value) (hp : tmps.getD 4 undef = .pointer (some ⟨g, 0, none⟩)) (hv : tmps.getD 5 undef = v) (hu : tmps.getD 6 undef = u)
    (ht : w.there g 0 12) (hw : w1 = w.setCells g 0 (nodeCs f a b c d s t)) : (results fn tmps).run Try.prog w1 = .ok (.tuple #[nodeV f a b c d s t, v, u]) w1 := by
  subst hw
  rw [results_cell_tt h _ _ _ hp (run_load_node _ g f a b c d s t (World.rangeAt_setCells_same _ _ _ _ ht)), hv, hu]

theorem lists_two {w : World} {ao bo : Option Addr} {len cap n c : Nat} {zs fs : List Int} (h : IArg w ao len cap zs) (k : IArg w bo n c fs) (T : TypeId) : ListsIn (w.alloc (.cells #[.slice ao len cap, .slice bo n c] T)) w.heap.size 0 [zs, fs] := by
  intro j ys hj
  have hb : Below w.heap.size w (w.alloc (.cells #[.slice ao len cap, .slice bo n c] T)) := (Below.refl _ _).alloc (Nat.le_refl _) _
  match j, hj with
  | 0, hj =>
    cases hj
    exact ⟨ao, len, cap, by rw [World.cell?_alloc_new]; rfl, h.later hb⟩
  | 1, hj =>
    cases hj
    exact ⟨bo, n, c, by rw [World.cell?_alloc_new]; rfl, k.later hb⟩
  | j + 2, hj => simp at hj

theorem IArg.takeAny {w : World} {ao : Option Addr} {len cap k : Nat} {zs : List Int} (h : IArg w ao len cap zs) (hk : k ≤ len) : IArg w ao k cap (zs.take k) := by
  cases ao with
  | none =>
    obtain ⟨rfl, rfl⟩ := h.2.2.1 rfl
    obtain rfl : k = 0 := by omega
    exact IArg.nil w
  | some x =>
    by_cases h0 : k = 0
    · subst h0
      exact ⟨⟨rfl, by decide, Or.inl rfl⟩, by simp, (fun e => by cases e), Nat.zero_le _⟩
    · obtain ⟨b, off, he, _⟩ := h.1.2.2.resolve_left (by omega)
      simp only [Option.some.injEq] at he
      subst he
      exact h.take hk

/-- What is known ahead of Plan's walk. -/
structure PlanKit (w : World) (ao bo : Option Addr) (len cap n c : Nat) (zs fs : List Int) : Prop where
  a : IArg w ao len cap zs
  f : IArg w bo n c fs
  ok : ptrsOk zs = true

theorem PlanKit.need {w W : World} {ao bo : Option Addr} {len cap n c : Nat} {zs fs : List Int} (h : PlanKit w ao bo len cap n c zs fs) (hW : Below w.heap.size w W) :
    Calls Try.prog 7 #[.slice ao len cap] W fun e w' => e = .returned (.tuple #[.int .i64 (needP zs : Int), .int .i64 0]) ∧ Below W.heap.size W w' := by
  have h2 := Need_any ao len cap zs W (h.a.later hW)
  have e1 : needOut zs = (needP zs : Int) := by unfold needOut; rw [h.ok]; rfl
  have e2 : needErr zs = 0 := by unfold needErr; rw [h.ok]; rfl
  rw [e1, e2] at h2
  exact h2

set_option maxRecDepth 100000 in
set_option maxHeartbeats 6400000 in
theorem PlanSpace_any {ao bo : Option Addr} {len cap n c : Nat} {zs fs : List Int} {w : World} (K : PlanKit w ao bo len cap n c zs fs) (hE : n < needP zs) :
    Calls Try.prog 11 #[.slice ao len cap, .slice bo n c] w fun e w' => e = .returned (.tuple #[node0, .slice none 0 0, .int .i64 6]) ∧ Below w.heap.size w w' := by
  have HN := Lib.hid (fun W hW => K.need (W := W) hW)
  have HT := Lib.hid (made_node w)
  have HB0 : Hid (Below w.heap.size w (w.alloc (.cells zeroN 32))) := Lib.hid ((Below.refl _ _).alloc (Nat.le_refl _) _)
  have i1 : (n : Int) < (needP zs : Int) := by omega
  unfold zeroN nodeCs at HT HB0
  generalize needP zs = N at *
  clear K
  go_enter Try.func11, Try.ntmps11
  go_wp2_with (first
    | (go_at_call 7; refine (HN.out _ HB0.out).mono ?_; rintro e w2 ⟨rfl, hb⟩; have HB2 := Lib.hid hb; clear hb)
    | (refine wpList_store_mid rfl 32 (.tmp 4) (.tmp 25) rfl w.heap.size 0 (nodeCs 0 0 0 0 0 0 0).toArray rfl rfl (there_later HB2.out HT.out.1 (by simp)) (iNodeA 0 0 0 0 0 0 0) (all_oneCell_toArray (node_one 0 0 0 0 0 0 0)) ?_))
  refine bodyPost_ret (v := .tuple #[node0, .slice none 0 0, .int .i64 6]) ?_ rfl ⟨rfl, ?_⟩
  · exact node_end rfl _ _ _ _ _ _ _ _ _ _ _ _ _ rfl rfl rfl (there_later HB2.out HT.out.1 (by simp)) rfl
  · exact below_cells _ (Nat.le_refl _) _ _ _ (HB0.out.trans (HB2.out.mono HB0.out.size))

set_option maxRecDepth 100000 in
set_option maxHeartbeats 6400000 in
theorem PlanBad_any {ao bo : Option Addr} {len cap n c : Nat} {zs fs : List Int} {w : World} (K : PlanKit w ao bo len cap n c zs fs) (hn : needP zs ≤ n) (hE : freshErr fs (needP zs) zs = 1) :
    Calls Try.prog 11 #[.slice ao len cap, .slice bo n c] w fun e w' => e = .returned (.tuple #[node0, .slice none 0 0, .int .i64 1]) ∧ Below w.heap.size w w' := by
  have HN := Lib.hid (fun W hW => K.need (W := W) hW)
  have HT := Lib.hid (made_node w)
  have HB0 : Hid (Below w.heap.size w (w.alloc (.cells zeroN 32))) := Lib.hid ((Below.refl _ _).alloc (Nat.le_refl _) _)
  have hfl := K.f.len
  have hzl := K.a.len
  have h96 : zs.length ≤ 96 := by have := K.ok; unfold ptrsOk at this; rw [Bool.and_eq_true, decide_eq_true_eq] at this; exact this.1
  have hn5 : needP zs ≤ 5 := by
    unfold needP underN
    cases someP zs 4 30 <;> cases someP zs 34 30 <;> cases someP zs 64 30 <;> cases someP zs 94 30 <;> decide
  have hcap := K.f.2.2.2
  rw [freshErr_eq (by omega)] at hE
  have HOWN : Hid (∀ W, Below w.heap.size w W → IArg W bo (needP zs) c (fs.take (needP zs))) := Lib.hid (fun W hW => (K.f.later hW).takeAny hn)
  have HC : Hid (∀ W, Below w.heap.size w W → Calls Try.prog 23 #[.slice bo (needP zs) c, .int .i64 0] W fun e w' => e = .returned (.bool (decide ((0 : Int) ∈ fs.take (needP zs)))) ∧ W = w') := Lib.hid (fun W hW => Contains_any bo _ c _ 0 W (HOWN.out W hW))
  have HAP : Hid (∀ W, Below w.heap.size w W → Calls Try.prog 18 #[.slice (some ⟨W.heap.size, 0, none⟩) (2 : Nat) (2 : Nat)] (W.alloc (.cells #[.slice ao len cap, .slice bo (needP zs) c] 22)) fun e w' => e = .returned (.bool (apartL (zs ++ fs.take (needP zs)))) ∧ Below (W.alloc (.cells #[.slice ao len cap, .slice bo (needP zs) c] 22)).heap.size (W.alloc (.cells #[.slice ao len cap, .slice bo (needP zs) c] 22)) w') := Lib.hid (fun W hW => by
    have h := apart_any W.heap.size 0 2 2 [zs, fs.take (needP zs)] _ rfl (lists_two (K.a.later hW) (HOWN.out W hW) 22) (by
      show zs.length + ((fs.take (needP zs)).length + 0) ≤ 10000
      rw [List.length_take]
      omega) (by decide)
    rw [show [zs, fs.take (needP zs)].flatten = zs ++ fs.take (needP zs) from by simp] at h
    exact h)
  have i1 : ¬ (n : Int) < (needP zs : Int) := by omega
  have i2 : (needP zs : Int) ≤ (c : Int) := by omega
  have i3 : needP zs ≤ c := by omega
  have i4 : (0 : Int) ≤ (needP zs : Int) := by omega
  unfold zeroN nodeCs at HT HB0
  generalize apartL (zs ++ fs.take (needP zs)) = B at *
  generalize decide ((0 : Int) ∈ fs.take (needP zs)) = D at *
  generalize needP zs = N at *
  clear K hfl hzl h96 hn5
  cases D with
  | true =>
    clear hE
    go_enter Try.func11, Try.ntmps11
    go_wp2_with (first
      | (go_at_call 7; refine (HN.out _ HB0.out).mono ?_; rintro e w2 ⟨rfl, hb⟩; have HB2 := Lib.hid hb; have HB3 := Lib.hid (HB0.out.trans (hb.mono HB0.out.size)); clear hb)
      | (go_at_call 23; refine (HC.out _ HB3.out).mono ?_; rintro e w3 ⟨rfl, rfl⟩)
      | (refine wpList_store_mid rfl 32 (.tmp 4) (.tmp 38) rfl w.heap.size 0 (nodeCs 0 0 0 0 0 0 0).toArray rfl rfl (there_later HB2.out HT.out.1 (by simp)) (iNodeA 0 0 0 0 0 0 0) (all_oneCell_toArray (node_one 0 0 0 0 0 0 0)) ?_))
    refine bodyPost_ret (v := .tuple #[node0, .slice none 0 0, .int .i64 1]) ?_ rfl ⟨rfl, ?_⟩
    · exact node_end rfl _ _ _ _ _ _ _ _ _ _ _ _ _ rfl rfl rfl (there_later HB2.out HT.out.1 (by simp)) rfl
    · exact below_cells _ (Nat.le_refl _) _ _ _ HB3.out
  | false =>
    cases B with
    | true => exact absurd hE (by decide)
    | false =>
      clear hE
      go_enter Try.func11, Try.ntmps11
      go_wp2_with (first
        | (go_at_call 7; refine (HN.out _ HB0.out).mono ?_; rintro e w2 ⟨rfl, hb⟩; have HB2 := Lib.hid hb; have HB3 := Lib.hid (HB0.out.trans (hb.mono HB0.out.size)); clear hb)
        | (go_at_call 23; refine (HC.out _ HB3.out).mono ?_; rintro e w3 ⟨rfl, rfl⟩)
        | (go_at_call 18; refine (HAP.out _ HB3.out).mono ?_; rintro e w4 ⟨rfl, hb⟩; have HB4 := Lib.hid ((((Below.refl _ _).alloc (Nat.le_refl _) _)).trans (hb.mono (by simp))); clear hb)
        | (refine wpList_store_mid rfl 32 (.tmp 4) (.tmp 38) rfl w.heap.size 0 (nodeCs 0 0 0 0 0 0 0).toArray rfl rfl (there_later (HB2.out.trans (HB4.out.mono HB2.out.size)) HT.out.1 (by simp)) (iNodeA 0 0 0 0 0 0 0) (all_oneCell_toArray (node_one 0 0 0 0 0 0 0)) ?_))
      refine bodyPost_ret (v := .tuple #[node0, .slice none 0 0, .int .i64 1]) ?_ rfl ⟨rfl, ?_⟩
      · exact node_end rfl _ _ _ _ _ _ _ _ _ _ _ _ _ rfl rfl rfl (there_later (HB2.out.trans (HB4.out.mono HB2.out.size)) HT.out.1 (by simp)) rfl
      · exact below_cells _ (Nat.le_refl _) _ _ _ (HB3.out.trans (HB4.out.mono HB3.out.size))

end Go.Proofs.Ytdbkhhmadefccaa
