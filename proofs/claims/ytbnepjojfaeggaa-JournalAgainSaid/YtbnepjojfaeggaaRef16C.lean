/-
  Proved here: what the document's own Check of layer 16 answers.
  The conditions stand at each theorem.
-/
import Derived.Test.YtbnepjojfaeggaaRef16
namespace Go.Proofs.Ytbnepjojfaeggaa
open Go.RowKit
set_option linter.unusedVariables false
set_option linter.unusedSimpArgs false

theorem step_append_bg {t e : TypeId} {z : Value} {sz nb : Nat} (hE : ElemR t e z sz nb) {ops : Array Oper} {o : Oper} {a : Act} {w : World} {K : Act → World → Prop} {Q : Exit → Act → World → Prop} {E : Prop} (hgd : o.guard = none) (s y : Operand) (ho : o.op = Op.call { callee := Callee.builtin Builtin.append, args := #[s, y], argTypes := #[t, t] })
    (base n : Nat) (v : Value) (xs : List Value) (hs : a.eval s = v) (hown : w.ownsRow base e sz v n xs) (ad : Addr) (m c : Nat) (news : List Value) (hl : news.length = m * sz) (hy : a.eval y = .slice (some ad) m c)
    (hx : ∀ j u, news[j]? = some u → w.cell? (ad.add j) = some u) (h1 : ∀ u ∈ news, u.oneCell' = true) (hb : n + m ≤ 17592186044416) (hb2 : (n + m) * nb ≤ 140737488355328) (hbase : base ≤ w.heap.size)
    (h : ∀ v' w', w'.ownsRow base e sz v' (n + m) (xs ++ news) → w.grownBy w' v.ownBlock → Below base w w' → K (a.put o.dst v') w') :
    if Region.wanted o (yielded ops a.tmps) = true then Oper.wp Try.prog o a w K Q else E := by
  have hw : Region.wanted o (yielded ops a.tmps) = true := by simp [Region.wanted, hgd]
  rw [if_pos hw]
  obtain ⟨hu, hi, hz, hp, hnb⟩ := hE
  obtain ⟨i0, hi0, hz0, hz1, hz2⟩ := info_parts hi
  obtain ⟨v', w', hrun, h2, h3, _⟩ := run_append_own (P := Try.prog) w base t o.type e i0 z sz nb hu hi0 hz0 hz1 hz2 hz hp v n xs hown ad m c news hl hx h1
      (by unfold maxLen; omega) hb2 hbase
  unfold Oper.wp
  simp [execOp, ho, resolve, invoke, builtin, hs, hy, hrun, Result.andThen]
  exact h v' w' h2 h3 ((Below.refl base w).grown h3 hbase (fun k hk => (hown.lt k hk).1))

/-- A write that no disk of n blocks takes. -/
def badW (n : Int) (p : Int × List Int) : Bool := decide (p.2.length ≠ 64 ∨ n ≤ p.1)
/-- The error of a commit, on a disk of n blocks. -/
def checkW (ws : List (Int × List Int)) (n : Int) : Int := if ws = [] then 0 else if ws.any (badW n) = true then 1 else if soundD ⟨1, ws.map Prod.fst⟩ = true then 0 else 1

set_option maxRecDepth 100000 in
set_option maxHeartbeats 3200000 in
theorem RCheck_any {w : World} {ao : Option Addr} {m cap : Nat} {ws : List (Int × List Int)} (n : Int) (hW : WIs w ao m ws) (hM : m ≤ 4398046511104) (hn : I64 n) :
    Calls Try.prog 10 #[.slice ao m cap, .int .i64 n] w fun e w' => e = .returned (.int .i64 (checkW ws n)) ∧ Below w.heap.size w w' := by
  have HW := Lib.hid hW
  have HL := Lib.hid hW.1
  have hbig := hW.2.1
  clear hW
  by_cases hm : m = 0
  · subst hm
    have HC : Hid (checkW ws n = 0) := Lib.hid (by unfold checkW; rw [if_pos (List.length_eq_zero_iff.1 HL.out)])
    go_enter Try.func10, Try.ntmps10
    go_wp2_with fail
    go_ret
    exact ⟨by rw [HC.out]; rfl, Below.refl _ _⟩
  have hm1 : ((m : Int) == 0) = false := by simp; omega
  have NV : Hid (DVar w w.heap.size 1 (.slice none 0 0) (w.alloc (.cells #[.int .i64 1, .slice none 0 0] 72))) := Lib.hid (dvar_new w 1)
  go_enter Try.func10, Try.ntmps10
  go_wp2_with fail
  go_loopw [6] (fun iv wr => ∃ (i : Nat) (vv : Value), iv = .int .i64 (i : Int) ∧ i ≤ m ∧ Hid ((ws.take i).any (badW n) = false) ∧ Hid (DVar w w.heap.size 1 vv wr) ∧ Hid (wr.ownsRow (w.heap.size + 1) 3 1 vv i (ints ((ws.take i).map Prod.fst)))) (fun iv _ => m - (intOf iv).toNat)
  case atStart => exact ⟨0, _, rfl, Nat.zero_le _, Lib.hid (by rw [List.take_zero]; rfl), NV, Lib.hid (by rw [List.take_zero]; exact owns_nil_r _ _ _ _)⟩
  case round =>
    obtain ⟨i, vv, rfl, hi, HB, HV, HO⟩ := hrel
    by_cases hlt : i < m
    · obtain ⟨wb, wf, a, zs, ad, l, c, rfl, hx, c1, ha, c2, hA⟩ := HW.out.at hlt
      have BR : Hid (Below w.heap.size w wr) := Lib.hid HV.out.1
      have d1 := cell_later BR.out c1
      have d2 := cell_later BR.out c2
      have hl : zs.length = l := hA.1.1
      have i1 : (i : Int) < (m : Int) := by omega
      have i0 : (0 : Int) ≤ (i : Int) := by omega
      have HX := Lib.hid hx
      by_cases hb : badW n (a, zs) = true
      · have HC : Hid (checkW ws n = 1) := Lib.hid (by
          unfold checkW
          rw [if_neg (fun e => by rw [e] at hx; simp at hx), if_pos (List.any_eq_true.2 ⟨_, List.mem_of_getElem? hx, hb⟩)])
        unfold badW at hb
        rw [decide_eq_true_eq] at hb
        simp only [hl] at hb
        clear hx c1 c2 hA
        by_cases h64 : l = 64
        · have hna : n ≤ a := hb.resolve_left (fun h => h h64)
          subst h64
          clear hb
          go_wp2_with fail
          go_ret
          exact ⟨by rw [HC.out]; rfl, BR.out⟩
        · have hne : ((l : Int) != 64) = true := by simp; omega
          clear hb
          go_wp2_with fail
          go_ret
          exact ⟨by rw [HC.out]; rfl, BR.out⟩
      · have HN : Hid ((ws.take (i + 1)).any (badW n) = false) := Lib.hid (by
          rw [List.take_add_one, hx, List.any_append, HB.out]
          simpa using hb)
        have HST : Hid ((ws.take (i + 1)).map Prod.fst = (ws.take i).map Prod.fst ++ [a]) := Lib.hid (by rw [List.take_add_one, hx, List.map_append]; rfl)
        unfold badW at hb
        rw [decide_eq_true_eq] at hb
        simp only [hl] at hb
        have h64 : l = 64 := by omega
        have hna : ¬ n ≤ a := fun h => hb (Or.inr h)
        subst h64
        have cc1 := HV.out.2.2.1
        have r1 := HV.out.2.2.2
        have HSZ : Hid (w.heap.size + 1 ≤ wr.heap.size) := Lib.hid HV.out.lt
        have c1a : ∀ x, (wr.drew.alloc (.cells #[.int .i64 x] 3)).cell? ⟨w.heap.size, 1, none⟩ = some vv := fun x => cell_later ((Below.refl _ _).alloc (Nat.le_refl _) _) cc1
        have d1a : ∀ x, (wr.drew.alloc (.cells #[.int .i64 x] 3)).cell? ⟨wb, wf + i * 2, none⟩ = some (.int .i64 a) := fun x => cell_later ((Below.refl _ _).alloc (Nat.le_refl _) _) d1
        have c1b : ∀ x, (wr.alloc (.cells #[.int .i64 x] 3)).cell? ⟨w.heap.size, 1, none⟩ = some vv := fun x => cell_later ((Below.refl _ _).alloc (Nat.le_refl _) _) cc1
        have d1b : ∀ x, (wr.alloc (.cells #[.int .i64 x] 3)).cell? ⟨wb, wf + i * 2, none⟩ = some (.int .i64 a) := fun x => cell_later ((Below.refl _ _).alloc (Nat.le_refl _) _) d1
        clear hx c1 c2 hA hb
        go_wp2_with fail
        go_region_law (refine step_append_bg (o := ⟨some 41, _, _, _, _, _⟩) elemIR rfl (.tmp 34) (.tmp 40) rfl (w.heap.size + 1) i vv _ rfl ((owns_drew HO.out).alloc _) ⟨wr.heap.size, 0, none⟩ 1 1 [.int .i64 a] rfl rfl (news_f wr.drew [.int .i64 a] _) (by intro u hu; simp only [List.mem_cons, List.mem_nil_iff, or_false] at hu; rcases hu with rfl; rfl) (by omega) (by omega) (by have := HSZ.out; simp; omega) ?_; intro v4 w4 hown4 _ hb4; obtain ⟨ao4, cp4, rfl⟩ := owns_shape_r hown4; have HO4 := Lib.hid hown4; have NV4 := Lib.hid ((HV.out.drew.later ((Below.refl _ _).alloc (Nat.le_refl _) (.cells #[.int .i64 a] 3))).under hb4 (by omega) (by simp)); have c4 := NV4.out.2.2.1; have f4 := NV4.out.2.2.2; clear hown4 hb4)
        all_goals
          go_wp2_with fail
          go_roundw
          case rel => exact ⟨i + 1, _, by go_num, by omega, HN, Lib.hid (NV4.out.setSl (by simp)), Lib.hid (by rw [HST.out, ints_append]; exact owns_setCell HO4.out (by omega))⟩
          case measure => simp [intOf]; omega
    · obtain rfl : i = m := by omega
      obtain ⟨ad, cd, rfl⟩ := owns_shape_r HO.out
      have hall : ws.take i = ws := List.take_of_length_le (by rw [HL.out]; exact Nat.le_refl _)
      have ho := HO.out
      have hb := HB.out
      rw [hall] at ho hb
      have hia : IArg wr ad i cd (ws.map Prod.fst) := by
        obtain ⟨a, c, he, hI, _⟩ := fresh_of_ints ho (by
          intro x hx
          obtain ⟨p, hp, rfl⟩ := List.mem_map.1 hx
          obtain ⟨j, hj, rfl⟩ := List.mem_iff_getElem.1 hp
          obtain ⟨_, _, a, zs, _, _, _, _, hx', _, ha, _⟩ := HW.out.at (i := j) (by rw [← HL.out]; exact hj)
          rw [List.getElem?_eq_getElem hj] at hx'
          have e := Option.some.inj hx'
          show I64 (ws[j]).1
          rw [e]
          exact ha) (by omega)
        have hlm : (ws.map Prod.fst).length = i := by rw [List.length_map, HL.out]
        rw [hlm] at he hI
        simp only [Value.slice.injEq, true_and] at he
        obtain ⟨rfl, rfl⟩ := he
        exact hI
      have cS := RSound_any 1 hia
      have dd0 := HV.out.2.1
      have dd1 := HV.out.2.2.1
      have BR : Hid (Below w.heap.size w wr) := Lib.hid HV.out.1
      have hcw : checkW ws n = if soundD ⟨1, ws.map Prod.fst⟩ = true then 0 else 1 := by
        unfold checkW
        rw [if_neg (fun e => by rw [e] at hall; have := HL.out; rw [e] at this; simp at this; omega), if_neg (by rw [hb]; decide)]
      have HCW := Lib.hid hcw
      clear hia ho hb hall hcw
      cases hs : soundD ⟨1, ws.map Prod.fst⟩ with
      | true =>
        rw [hs] at cS
        have HSS := Lib.hid hs
        clear hs
        go_wp2_with (go_at_call 30; refine cS.mono ?_; rintro e w5 ⟨rfl, hb5⟩; have B5 := Lib.hid (BR.out.trans (hb5.mono BR.out.size)); clear hb5)
        go_ret
        exact ⟨by rw [HCW.out, HSS.out]; rfl, B5.out⟩
      | false =>
        rw [hs] at cS
        have HSS := Lib.hid hs
        clear hs
        go_wp2_with (go_at_call 30; refine cS.mono ?_; rintro e w5 ⟨rfl, hb5⟩; have B5 := Lib.hid (BR.out.trans (hb5.mono BR.out.size)); clear hb5)
        go_ret
        exact ⟨by rw [HCW.out, HSS.out]; rfl, B5.out⟩

end Go.Proofs.Ytbnepjojfaeggaa
