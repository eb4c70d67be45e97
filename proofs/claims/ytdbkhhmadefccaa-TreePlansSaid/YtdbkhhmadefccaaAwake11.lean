/-
  Proved here: the simplest facts of maps hold (awake).
  The conditions stand at each theorem.
-/
import Derived.Test.YtdbkhhmadefccaaTrSame
namespace Go.Proofs.Ytdbkhhmadefccaa
open Go.RowKit
set_option linter.unusedVariables false
set_option linter.unusedSimpArgs false

def aw11 : List Int := [60, 61, 0, 62, 80]
def aw90 : List Int := [90]
theorem aw_four {x : Int} (h : aw11[4]? = some x) : x = 80 := by
  have e : aw11[4]? = some 80 := rfl
  rw [e] at h
  exact (Option.some.inj h).symm
theorem aw_err : planErr aw11 aw90 = 0 := by decide +kernel
theorem aw_node : planNode aw11 aw90 = nodeV 1 60 61 0 62 90 0 := by
  unfold planNode
  rw [aw_err, if_pos rfl]
  have e1 : singleP aw11 aw90 = 90 := by decide +kernel
  have e2 : doubleP aw11 aw90 = 0 := by decide +kernel
  rw [e1, e2]
  rfl
theorem aw_trim : trimL aw11 = aw11 := by decide +kernel
theorem aw_need : aw90.take (needP aw11) = [90] := by decide +kernel
theorem aw_ws : planWs aw11 aw90 = writesP aw11 aw90 := by
  unfold planWs
  rw [aw_err, if_pos rfl]

/-- A node is written whole into a variable. -/
theorem wp_store_node {ops : Array Oper} {rest : List Oper} {o : Oper} {a : Act} {w : World} {Q : Exit → Act → World → Prop} (hgd : o.guard = none) (x y : Operand) (ho : o.op = .store 32 x y) (g : Nat) (hx : a.eval x = .pointer (some ⟨g, 0, none⟩))
    (f p q r u s t : Int) (hy : a.eval y = nodeV f p q r u s t) (ht : w.there g 0 12)
    (h : ∀ W, W.rangeAt g 0 (nodeCs f p q r u s t) → Keeps g w W → (∀ base w0, Below base w0 w → base ≤ g → Below base w0 W) → wpList Try.prog ops Q rest (a.put o.dst undef) W) : wpList Try.prog ops Q (o :: rest) a w := by
  refine wpList_store_mid hgd 32 x y ho g 0 (nodeCs f p q r u s t).toArray hx hy ht (iNodeA f p q r u s t) (all_oneCell_toArray (node_one f p q r u s t)) ?_
  exact h _ (World.rangeAt_setCells_same _ _ _ _ ht) (Keeps.sets _ _ _ _) (fun base w0 hb hg => below_cells _ hg _ _ _ hb)

/-- A node is read whole out of a variable. -/
theorem wp_load_node {ops : Array Oper} {rest : List Oper} {o : Oper} {a : Act} {w : World} {Q : Exit → Act → World → Prop} (hgd : o.guard = none) (x : Operand) (ho : o.op = .load 32 x) (g : Nat) (hx : a.eval x = .pointer (some ⟨g, 0, none⟩))
    (f p q r u s t : Int) (hr : w.rangeAt g 0 (nodeCs f p q r u s t)) (h : wpList Try.prog ops Q rest (a.put o.dst (nodeV f p q r u s t)) w) : wpList Try.prog ops Q (o :: rest) a w := by
  obtain ⟨fsN, hfN⟩ := uNode
  exact wpList_load_mid hgd 32 x ho g 0 hx (nodeCs f p q r u s t) _ hr hfN rfl (iNode _ rfl) h

set_option maxRecDepth 100000 in
set_option maxHeartbeats 6400000 in
theorem awake11_any (w : World) : Calls Try.prog 9 #[] w fun e w' => e = .returned (.bool true) ∧ Below w.heap.size w w' := by
  obtain ⟨W1, hW1⟩ : ∃ W1, W1 = (w.alloc (.cells (ints aw11).toArray 3)).alloc (.cells (ints aw90).toArray 3) := ⟨_, rfl⟩
  have h64 : ∀ z ∈ aw11, I64 z := fun z hz => by
    unfold aw11 at hz
    simp only [List.mem_cons, List.mem_nil_iff, or_false] at hz
    rcases hz with rfl | rfl | rfl | rfl | rfl <;> exact ⟨by decide, by decide⟩
  have h90 : ∀ z ∈ aw90, I64 z := fun z hz => by
    unfold aw90 at hz
    simp only [List.mem_cons, List.mem_nil_iff, or_false] at hz
    rcases hz with rfl
    exact ⟨by decide, by decide⟩
  have HB1 : Hid (Below w.heap.size w W1) := Lib.hid (by rw [hW1]; exact ((Below.refl _ _).alloc (Nat.le_refl _) _).alloc (by simp) _)
  have HS1 : Hid (W1.heap.size = w.heap.size + 2) := Lib.hid (by rw [hW1]; simp)
  have HA : Hid (IArg W1 (some ⟨w.heap.size, 0, none⟩) (5 : Nat) (5 : Nat) aw11) := Lib.hid (by
    rw [hW1]
    exact (iarg_of_range (cap := 5) (own_range (made_ints w aw11 3)) h64 (by decide) (by decide)).later ((Below.refl _ _).alloc (Nat.le_refl _) _))
  have HF : Hid (IArg W1 (some ⟨w.heap.size + 1, 0, none⟩) (1 : Nat) (1 : Nat) aw90) := Lib.hid (by
    rw [hW1]
    have h := iarg_of_range (cap := 1) (own_range (made_ints (w.alloc (.cells (ints aw11).toArray 3)) aw90 3)) h90 (by decide) (by decide)
    rw [World.size_alloc] at h
    exact h)
  have cP := Plan_any _ _ 5 5 1 1 aw11 aw90 W1 HA.out HF.out
  unfold PlanEnd at cP
  rw [aw_node, aw_ws, aw_err] at cP
  have HR : Hid (∀ (W : World) ao m cap, WIs W ao m (writesP aw11 aw90) → Calls Try.prog 15 #[nodeV 1 60 61 0 62 90 0, .slice ao m cap] W fun e w' => ∃ v u, e = .returned (.tuple #[v, u, .int .i64 0]) ∧ FreshI w' W.heap.size v aw11 ∧ FreshI w' W.heap.size u [90] ∧ Below W.heap.size W w') := Lib.hid (fun W ao m cap h => by
    have h1 := ReadPlan_any (cap := cap) (others := []) aw_err h64 h90 (by rw [List.append_nil]; exact h)
    have e1 : singleP aw11 aw90 = 90 := by decide +kernel
    have e2 : doubleP aw11 aw90 = 0 := by decide +kernel
    rw [aw_trim, aw_need, e1, e2] at h1
    exact h1)
  have hlw : (writesP aw11 aw90).length ≤ 1000 := by
    have : (writesP aw11 aw90).length = 1 := by
      have h := congrArg List.length (keys_plan (l := aw11) (fresh := aw90) (by decide +kernel))
      rw [List.length_map, aw_need] at h
      exact h
    omega
  have HLW := Lib.hid hlw
  generalize writesP aw11 aw90 = ws at *
  clear h64 h90 hlw
  go_enter Try.func9, Try.ntmps9
  have cP2 : Calls Try.prog 11 #[.slice (some ⟨w.heap.size, 0, none⟩) (5 : Nat) (5 : Nat), .slice (some ⟨w.heap.size + 1, 0, none⟩) (1 : Nat) (1 : Nat)] ((w.alloc (.cells #[.int .i64 60, .int .i64 61, .int .i64 0, .int .i64 62, .int .i64 80] 3)).alloc (.cells #[.int .i64 90] 3)) fun e w' => ∃ v, e = .returned (.tuple #[nodeV 1 60 61 0 62 90 0, v, .int .i64 0]) ∧ WOwn W1.heap.size w' v ws ∧ Below W1.heap.size W1 w' := by
    have h := cP
    rw [hW1] at h ⊢
    exact h
  clear cP hW1
  go_wp2_with (first
    | (go_at_call 11; refine cP2.mono ?_; rintro e w2 ⟨v2, rfl, hw2, hb2⟩; obtain ⟨wa, wc, rfl, hwi, -, -⟩ := hw2.wis HLW.out; have HWI := Lib.hid hwi; have HB2 := Lib.hid (HB1.out.trans (hb2.mono HB1.out.size)); clear hwi hw2 hb2)
    | (refine wp_store_node rfl (.tmp 1) (.tmp 11) rfl w2.heap.size rfl 1 60 61 0 62 90 0 rfl (made_node w2).1 ?_; intro W4 hr4 hk4 hb4; have HR4 := Lib.hid hr4; have HB24 := Lib.hid (hb4 _ _ ((Below.refl w2.heap.size w2).alloc (Nat.le_refl _) (.cells zeroN 32)) (Nat.le_refl _)); clear hr4 hk4 hb4)
    | (refine wp_load_node rfl (.tmp 1) rfl w2.heap.size rfl 1 60 61 0 62 90 0 HR4.out ?_)
    | (go_at_call 15; refine (HR.out _ wa _ wc (HWI.out.later HB24.out)).mono ?_; rintro e w3 ⟨v3, u3, rfl, hv, hu, hb⟩; obtain ⟨va, vc, rfl, hva, -⟩ := hv; obtain ⟨ua, uc, rfl, hua, -⟩ := hu; obtain ⟨vb, vo, x, rfl, hx, hc4, -⟩ := hva.at (i := 4) (by decide); obtain rfl := aw_four hx; have c8 : w3.cell? ⟨w2.heap.size, 8, none⟩ = some (.int .i64 90) := cell_later hb (HR4.out 8 _ rfl); rw [show aw11.length = 5 from rfl]; have HB3 := Lib.hid (HB2.out.trans ((HB24.out.trans (hb.mono HB24.out.size)).mono HB2.out.size)); clear hva hua hx hb))
  go_ret
  exact ⟨rfl, HB3.out⟩

end Go.Proofs.Ytdbkhhmadefccaa
