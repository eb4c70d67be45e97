/-
  Proved here: what the landed chain's fetch answers of a block of extents that is there.
  The conditions stand at each theorem.
-/
import Derived.WalkMore
import Derived.ScopeJumps
import Derived.Test.YtmgmlebkmdpddaaChRead
namespace Go.Proofs.Ytmgmlebkmdpddaa
open Go.RowKit
set_option linter.unusedVariables false
set_option linter.unusedSimpArgs false

section
variable {P : Program} {a : Act} {w : World} {Q : Exit → Act → World → Prop}
/-- A scope in which the run comes to a label and jumps back to it: its rest is walked once. -/
theorem wp_scope_againC {c rest : Code} (l : Nat) (J : Act → World → Prop) (μ : Act → World → Nat) (hf : findLabel c l = some (Code.skip.seq rest))
    (first : (∀ a w, J a w → rest.wp P (Exit.jump l J Q) a w) → c.wp P (Exit.jump l J Q) a w)
    (pass : ∀ a w, J a w → rest.wp P (Exit.jump l (fun a' w' => J a' w' ∧ μ a' w' < μ a w) Q) a w) : (Code.scope c).wp P Q a w := by
  refine wp_scope_jumps l J μ hf (first (fun a w h => wp_mono (pass a w h) (fun e a' w' hq => ?_))) (fun a w h => wp_seq (wp_skip (pass a w h)))
  cases e with
  | goto l' => exact ⟨hq.1, hq.2.1⟩
  | _ => exact hq
end

/-- Two rows of elements of two types lie in two blocks. -/
theorem owns_neC {w : World} {b1 n1 s1 b2 n2 s2 : Nat} {e1 e2 : TypeId} {v1 v2 : Value} {x1 x2 : List Value} (h1 : w.ownsRow b1 e1 s1 v1 n1 x1) (h2 : w.ownsRow b2 e2 s2 v2 n2 x2) (he : e1 ≠ e2) : v1.ownBlock = none ∨ v1.ownBlock ≠ v2.ownBlock := by
  rcases h1.2 with ⟨rfl, _⟩ | ⟨g1, c1, u1, rfl, _, hg1, _⟩
  · exact Or.inl rfl
  · refine Or.inr ?_
    rcases h2.2 with ⟨rfl, _⟩ | ⟨g2, c2, u2, rfl, _, hg2, _⟩
    · simp [Value.ownBlock]
    · intro e
      simp [Value.ownBlock] at e
      subst e
      rw [hg1] at hg2
      simp at hg2
      exact he hg2.2

/-- The bytes are a block of these extents, and name a block that comes next. -/
def IsBlk (zs : List Int) (xs : List EX) (nx : Int) : Prop := getOut zs 0 1 = (xs.length : Int) ∧ 1 ≤ xs.length ∧ xs.length ≤ 14 ∧ saysX zs xs ∧ getOut zs 2 2 = nx ∧ I64 nx ∧ chBlock xs nx = zs ∧ ∀ x ∈ xs, fineX x

set_option maxRecDepth 100000 in
set_option maxHeartbeats 3200000 in
theorem chFetch_any {w : World} {g n cap : Nat} {x nx : Int} {vo : Option Addr} {vc : Nat} {zs : List Int} {xs : List EX} (hn : 0 < n) (hn2 : n ≤ 140737488351232) (h0 : w.cell? ⟨g, 0, none⟩ = some (.int .i64 x)) (h1 : w.cell? ⟨g, 1, none⟩ = some (.slice vo 64 vc)) (hA : Arg w vo 64 vc zs) (hz : IsBlk zs xs nx) :
    Calls Try.prog 25 #[.int .i64 x, .slice (some ⟨g, 0, none⟩) n cap] w fun e w' => ∃ v, e = .returned (.tuple #[v, .int .i64 nx, .bool true]) ∧ RowX w.heap.size w' v xs ∧ Below w.heap.size w w' := by
  obtain ⟨z0, z1, z2, z3, z4, z5, z6, z7⟩ := hz
  have HA0 : Hid (Below w.heap.size w (w.alloc (.cells #[.int .i64 x] 3))) := Lib.hid ((Below.refl _ _).alloc (Nat.le_refl _) _)
  have HI : Hid (Calls Try.prog 34 #[.slice (some ⟨g, 0, none⟩) n cap, .func (.func 35) #[] #[.pointer (some ⟨w.heap.size, 0, none⟩)]] (w.alloc (.cells #[.int .i64 x] 3)) fun e w' => e = .returned (.int .i64 0) ∧ Below (w.alloc (.cells #[.int .i64 x] 3)).heap.size (w.alloc (.cells #[.int .i64 x] 3)) w') := Lib.hid (indexW_first hn hn2 (by rw [World.cell?_alloc_new]; rfl) (cell_later HA0.out h0) (cell_later HA0.out h1))
  have HA := Lib.hid hA
  have Z0 := Lib.hid z0
  have Z3 := Lib.hid z3
  have Z4 := Lib.hid z4
  have Z5 := Lib.hid z5
  have Z6 := Lib.hid z6
  have Z7 := Lib.hid z7
  obtain ⟨m, hm⟩ : ∃ m, xs.length = m := ⟨_, rfl⟩
  rw [hm] at z1 z2
  have HM := Lib.hid hm
  have n0 : (0 : Int) < (n : Int) := by omega
  have m1 : (1 : Int) ≤ (m : Int) := by omega
  have m2 : (m : Int) ≤ 14 := by omega
  clear hA z0 z3 z4 z5 z6 z7 hm
  go_enter Try.func25, Try.ntmps25
  go_wp2_with (first
    | (go_at_call 38; refine (chEqual_any _ _ _ _ _ _ _ _ w6 HA6.out.1 ((HA.out.later HB6.out).1)).mono ?_; rintro e w7 ⟨rfl, rfl⟩; rw [decide_eq_true Z6.out])
    | (go_at_call 15; refine (chWrite_any nx HE5.out Z7.out Z5.out).mono ?_; rintro e w6 ⟨v6, rfl, hf6, hb6⟩; obtain ⟨ao6, c6, rfl, hA6⟩ := fresh_form hf6; have HA6 := Lib.hid hA6; have HB6 := Lib.hid (HB5.out.trans (hb6.mono HB5.out.size)); have HR6 := Lib.hid (HR5.out.later hb6); clear hf6 hb6 hA6)
    | (go_at_call 37; refine (chRead_any (HA.out.later HB3.out) Z3.out HM.out (by omega)).mono ?_; rintro e w5 ⟨v5, rfl, hr5, hb5⟩; rw [Z4.out]; obtain ⟨ao5, c5, rfl, hE5⟩ := hr5.eis (by rw [HM.out]; omega); have HR5 := Lib.hid (hr5.mono HB3.out.size); have HE5 := Lib.hid hE5; have HB5 := Lib.hid (HB3.out.trans (hb5.mono HB3.out.size)); clear hr5 hE5 hb5)
    | (go_at_call 36; refine (fGet_any _ _ _ _ 0 1 w3 (HA.out.later HB3.out) (by decide) (by decide)).mono ?_; rintro e w4 ⟨rfl, rfl⟩; rw [Z0.out, HM.out])
    | (go_at_call 34; refine HI.out.mono ?_; rintro e w3 ⟨rfl, hb3⟩; have HB3 := Lib.hid (HA0.out.trans (hb3.mono HA0.out.size)); have d1 := cell_later HB3.out h1; clear hb3))
  go_ret3
  exact ⟨_, rfl, HR6.out, HB6.out⟩

/-- Where following a chain of one block stands: ahead of it, or behind it. -/
def FolAt (base : Nat) (x : Int) (l3 xs : List EX) (nx : Int) (lv ov : Value) (w : World) : Prop :=
  (nx = x ∧ RowX base w lv l3 ∧ ov = .slice none 0 0) ∨ (nx = 0 ∧ RowX base w lv (l3 ++ xs) ∧ FreshI w base ov [x])

set_option maxRecDepth 100000 in
set_option maxHeartbeats 3200000 in
theorem chFollow_one {w : World} {xo : Option Addr} {xc g cap : Nat} {x : Int} {vo : Option Addr} {vc : Nat} {zs : List Int} {l3 xs : List EX} (hE : EIs w xo 3 l3) (hx0 : 0 < x) (hx9 : x ≤ 479) (h0 : w.cell? ⟨g, 0, none⟩ = some (.int .i64 x)) (h1 : w.cell? ⟨g, 1, none⟩ = some (.slice vo 64 vc)) (hA : Arg w vo 64 vc zs) (hz : IsBlk zs xs 0) :
    Calls Try.prog 17 #[nodeC (.slice xo 3 xc) 2 x, .slice (some ⟨g, 0, none⟩) (1 : Nat) cap] w fun e w' => ∃ v ov, e = .returned (.tuple #[v, ov, .bool true]) ∧ RowX w.heap.size w' v (l3 ++ xs) ∧ FreshI w' w.heap.size ov [x] ∧ Below w.heap.size w w' := by
  unfold nodeC
  have HXP : Hid (0 < x) := Lib.hid hx0
  have HE := Lib.hid hE
  have HA := Lib.hid hA
  have HZ := Lib.hid hz
  have hne : (x == 0) = false := by simp; omega
  have hne2 : (x != 0) = true := by simp; omega
  have HA0 : Hid (Below w.heap.size w (w.alloc (.cells #[.int .i64 0, .int .i64 2, .int .i64 0, .int .i64 0, .int .i64 0, .int .i64 0, .int .i64 0, .int .i64 0, .int .i64 0, .int .i64 0, .slice xo 3 xc, .int .i64 x] 37))) := Lib.hid ((Below.refl _ _).alloc (Nat.le_refl _) _)
  have n7 : (w.alloc (.cells #[.int .i64 0, .int .i64 2, .int .i64 0, .int .i64 0, .int .i64 0, .int .i64 0, .int .i64 0, .int .i64 0, .int .i64 0, .int .i64 0, .slice xo 3 xc, .int .i64 x] 37)).cell? ⟨w.heap.size, 10, none⟩ = some (.slice xo 3 xc) := by rw [World.cell?_alloc_new]; rfl
  have n8 : (w.alloc (.cells #[.int .i64 0, .int .i64 2, .int .i64 0, .int .i64 0, .int .i64 0, .int .i64 0, .int .i64 0, .int .i64 0, .int .i64 0, .int .i64 0, .slice xo 3 xc, .int .i64 x] 37)).cell? ⟨w.heap.size, 11, none⟩ = some (.int .i64 x) := by rw [World.cell?_alloc_new]; rfl
  have N8 := Lib.hid n8
  have hnil : xo = none → xc = 0 := fun h => by
    obtain ⟨b, off, he, _⟩ := hE.2.2.resolve_left (by decide)
    rw [h] at he
    cases he
  have HNIL := Lib.hid hnil
  clear hE hA hz hx0 hnil
  go_enter Try.func17, Try.ntmps17
  go_wp2_with fail
  refine wp_scope_againC 0 (fun a' w' => ∃ (nx : Int) (lv ov : Value) (u3 u6 u8 u9 u10 u11 u12 u13 u14 u15 u16 u17 u18 u19 u20 u21 u22 u23 u24 u25 u26 u27 u28 u29 u30 u31 u32 u33 u34 u35 u36 u37 u38 u39 u40 u41 u42 u43 u44 u45 u46 u47 u48 u49 u50 u51 u52 : Value), a' = { tmps := #[.agg #[.int .i64 0, .int .i64 2, .int .i64 0, .int .i64 0, .int .i64 0, .int .i64 0, .int .i64 0, .int .i64 0, .int .i64 0, .int .i64 0, .slice xo 3 xc, .int .i64 x], .slice (some ⟨g, 0, none⟩) (1 : Nat) cap, .pointer (some ⟨w.heap.size, 0, none⟩), u3, lv, ov, u6, .int .i64 nx, u8, u9, u10, u11, u12, u13, u14, u15, u16, u17, u18, u19, u20, u21, u22, u23, u24, u25, u26, u27, u28, u29, u30, u31, u32, u33, u34, u35, u36, u37, u38, u39, u40, u41, u42, u43, u44, u45, u46, u47, u48, u49, u50, u51, u52], defers := [] } ∧ Hid (FolAt w.heap.size x l3 xs nx lv ov w') ∧ Hid (Below w.heap.size w w')) (fun a' _ => (intOf (a'.tmps.getD 7 undef)).toNat) rfl ?_ ?_
  · intro hpass
    go_wp2_with (go_at_call 16; refine (cloneX_any xo 3 xc l3 _ (HE.out.later HA0.out) HNIL.out).mono ?_; rintro e w2 ⟨v2, rfl, hr2, hb2⟩; obtain ⟨ao2, c2, rfl, _⟩ := hr2.eis (by rw [HE.out.1]; decide); rw [HE.out.1]; have HR2 := Lib.hid (hr2.mono HA0.out.size); have HB2 := Lib.hid (HA0.out.trans (hb2.mono HA0.out.size)); have n9 := cell_later hb2 N8.out; clear hr2 hb2 n7 n8)
    go_step3
    rename_i hK0
    refine hK0 _ _ (hpass _ _ ?_)
    exact ⟨x, _, _, _, _, _, _, _, _, _, _, _, _, _, _, _, _, _, _, _, _, _, _, _, _, _, _, _, _, _, _, _, _, _, _, _, _, _, _, _, _, _, _, _, _, _, _, _, _, _, rfl, Lib.hid (Or.inl ⟨rfl, by have h := HR2.out; rw [HE.out.1] at h; exact h, rfl⟩), HB2⟩
  · rintro a' w' ⟨nx, lv, ov, u3, u6, u8, u9, u10, u11, u12, u13, u14, u15, u16, u17, u18, u19, u20, u21, u22, u23, u24, u25, u26, u27, u28, u29, u30, u31, u32, u33, u34, u35, u36, u37, u38, u39, u40, u41, u42, u43, u44, u45, u46, u47, u48, u49, u50, u51, u52, rfl, HF, HB⟩
    clear n7 n8
    rcases HF.out with ⟨rfl, hr, rfl⟩ | ⟨rfl, hr, ho⟩
    · obtain ⟨vs, ho, hc⟩ := hr
      obtain ⟨ao2, c2, rfl⟩ := owns_shape_r ho
      rw [HE.out.1] at ho ⊢
      have HO := Lib.hid ho
      have HC := Lib.hid hc
      have HI64 : Hid (∀ z ∈ [nx], I64 z) := Lib.hid (by intro z hz; simp only [List.mem_cons, List.not_mem_nil, or_false] at hz; have := HXP.out; subst hz; exact ⟨by omega, by omega⟩)
      have HBS := HB.out.size
      obtain ⟨m, hm⟩ : ∃ m, xs.length = m := ⟨_, rfl⟩
      have HM := Lib.hid hm
      have HM14 : Hid (1 ≤ m ∧ m ≤ 14) := Lib.hid (by rw [← hm]; exact ⟨HZ.out.2.1, HZ.out.2.2.1⟩)
      clear ho hc HF hm
      go_wp2_with (first
        | (at_builtin; refine wp_append_r elemX rfl (.tmp 50) (.tmp 51) rfl w.heap.size 3 _ vs rfl (owns_later_r HO.out HB6.out) pad m pc us HU2.out rfl HU4.out HU3.out (by have := HM14.out; omega) (by have := HB6.out.size; omega) ?_; intro v7 w7 hown7 hg7 hb7; have HO7 := Lib.hid hown7; have HG7 := Lib.hid hg7; have HB7 := Lib.hid hb7; clear hown7 hg7 hb7)
        | (go_at_call 25; refine (chFetch_any (by decide) (by decide) (cell_later (HB.out.trans HB5.out) h0) (cell_later (HB.out.trans HB5.out) h1) (HA.out.later (HB.out.trans HB5.out)) HZ.out).mono ?_; rintro e w6 ⟨v6, rfl, hr6, hb6⟩; obtain ⟨pa, pc, rfl, hE6, hg6, _⟩ := hr6.eis2 (by rw [HM.out]; have := HM14.out; omega); rw [HM.out] at hE6 ⊢; obtain ⟨pad, rfl⟩ : ∃ pad, pa = some pad := (by obtain ⟨b', o', he, _⟩ := hE6.2.2.resolve_left (by have := HM14.out; omega); exact ⟨_, he⟩); obtain ⟨us, hu1, hu2, hu3, hu4⟩ := hE6.news (by have := HM14.out; omega); have HU1 := Lib.hid hu1; have HU2 := Lib.hid hu2; have HU3 := Lib.hid hu3; have HU4 := Lib.hid hu4; have HB6 : Hid (Below w'.heap.size w' w6) := Lib.hid (HBB.out.trans (hb6.mono HBB.out.size)); have HR6 := Lib.hid (HO5.out); have HLB6 := Lib.hid hb6; clear hr6 hb6 hE6 hg6 hu1 hu2 hu3 hu4)
        | (at_builtin; refine wp_append_r elemIR rfl (.tmp 28) (.tmp 30) rfl w'.heap.size 0 _ [] rfl (owns_nil_r _ _ _ _) ⟨w'.heap.size, 0, none⟩ 1 1 [.int .i64 nx] rfl rfl (news_r w' [.int .i64 nx] _) (by intro u hu; simp at hu; rw [hu]; rfl) (by decide) (by simp) ?_; intro v5 w5 hown5 hg5 hb5; obtain ⟨oo, oc, rfl⟩ := owns_shape_r hown5; have HO5 := Lib.hid hown5; have HBB : Hid (Below w'.heap.size w' w5) := Lib.hid (((Below.refl _ _).alloc (Nat.le_refl _) _).trans hb5); have HB5 : Hid (Below w.heap.size w' w5) := Lib.hid (HBB.out.mono HBS); clear hown5 hg5 hb5))
      have HOW : Hid (FreshI w7 w.heap.size (.slice oo 1 oc) [nx]) := Lib.hid (by
        have o6 := owns_later_r HO5.out HLB6.out
        have l6 := owns_later_r HO.out HB6.out
        have o7 := o6.kept HG7.out (owns_neC o6 l6 (by decide))
        exact (fresh_of_ints (zs := [nx]) o7 HI64.out (by decide)).mono HBS)
      refine wp_goto ⟨rfl, ⟨0, _, _, _, _, _, _, _, _, _, _, _, _, _, _, _, _, _, _, _, _, _, _, _, _, _, _, _, _, _, _, _, _, _, _, _, _, _, _, _, _, _, _, _, _, _, _, _, _, _, rfl, Lib.hid (Or.inr ⟨rfl, ⟨vs ++ us, ?_, HC.out.append HU1.out⟩, HOW.out⟩), Lib.hid ((HB.out.trans (HB6.out.mono HBS)).trans HB7.out)⟩, ?_⟩
      · rw [List.length_append, HE.out.1, HM.out]
        exact HO7.out
      · have := HXP.out
        simp [intOf]
        omega
    · obtain ⟨vs, ho1, hc1⟩ := hr
      obtain ⟨ao2, c2, rfl⟩ := owns_shape_r ho1
      obtain ⟨oo, oc, rfl, ho2, ho3⟩ := ho
      obtain ⟨N, hN⟩ : ∃ N, (l3 ++ xs).length = N := ⟨_, rfl⟩
      have HR : Hid (RowX w.heap.size w' (.slice ao2 N c2) (l3 ++ xs)) := Lib.hid (by rw [← hN]; exact ⟨vs, ho1, hc1⟩)
      have HOW : Hid (FreshI w' w.heap.size (.slice oo 1 oc) [x]) := Lib.hid ⟨oo, oc, rfl, ho2, ho3⟩
      rw [show [x].length = 1 from rfl, hN]
      clear ho1 hc1 ho2 ho3 HF hN
      go_wp2_with fail
      simp only [Exit.jump]
      go_ret3
      exact ⟨_, _, rfl, HR.out, HOW.out, HB.out⟩

end Go.Proofs.Ytmgmlebkmdpddaa
