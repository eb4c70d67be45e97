/-
  Proved here: what the landed node's fromSlots answers.
  The conditions stand at each theorem.
-/
import Derived.Test.YtojfhhmjoledjaaNPlace
import Derived.Test.YtojfhhmjoledjaaNEq
import Derived.Test.YtojfhhmjoledjaaNSlots
namespace Go.Proofs.Ytojfhhmjoledjaa
open Go.RowKit
set_option linter.unusedVariables false
set_option linter.unusedSimpArgs false

def fixX (x : PX) : PX := ⟨x.a, partA x.f x.c, partB x.f x.c⟩
def noX : PX := ⟨0, 0, 0⟩
/-- What is read of slots: up to the first that says nothing. -/
def gotX (ts : List PX) : List PX := (ts.takeWhile fun x => !decide (x = noX)).map fixX

theorem elemExtent : ElemK9 24 40 (.agg #[.int .i64 0, .complex .f64 0 0]) 2 24 := ⟨Try.underlying24, by kernel_rfl, rfl, by decide, by decide⟩

/-- The cells of extents: two each. -/
def XCells : List Value → List PX → Prop
  | [], [] => True
  | a :: v :: r, x :: xs => a = .int .i64 x.a ∧ CX v x.f x.c ∧ XCells r xs
  | _, _ => False

theorem XCells.snoc : ∀ {cs : List Value} {xs : List PX} {x : PX} {v : Value}, XCells cs xs → CX v x.f x.c → XCells (cs ++ [.int .i64 x.a, v]) (xs ++ [x])
  | [], [], _, _, _, hv => ⟨rfl, hv, trivial⟩
  | _ :: _ :: _, _ :: _, _, _, h, hv => ⟨h.1, h.2.1, XCells.snoc h.2.2 hv⟩
  | [], _ :: _, _, _, h, _ => h.elim
  | [_], [], _, _, h, _ => h.elim
  | [_], _ :: _, _, _, h, _ => h.elim
  | _ :: _ :: _, [], _, _, h, _ => h.elim

theorem XCells.at : ∀ {cs : List Value} {xs : List PX} {i : Nat} {x : PX}, XCells cs xs → xs[i]? = some x → cs[i * 2]? = some (.int .i64 x.a) ∧ ∃ v, cs[i * 2 + 1]? = some v ∧ CX v x.f x.c
  | a :: v :: r, y :: xs, 0, x, h, hx => by
    simp at hx
    subst hx
    exact ⟨by rw [h.1]; rfl, v, rfl, h.2.1⟩
  | a :: v :: r, y :: xs, i + 1, x, h, hx => by
    have hx' : xs[i]? = some x := by simpa using hx
    obtain ⟨h1, u, h2, h3⟩ := XCells.at h.2.2 hx'
    rw [show (i + 1) * 2 = i * 2 + 1 + 1 by omega, show i * 2 + 1 + 1 + 1 = (i * 2 + 1) + 1 + 1 by omega]
    exact ⟨by simpa using h1, u, by simpa using h2, h3⟩
  | [], [], _, _, _, hx => by simp at hx
  | [], _ :: _, _, _, h, _ => h.elim
  | [_], [], _, _, h, _ => h.elim
  | [_], _ :: _, _, _, h, _ => h.elim
  | _ :: _ :: _, [], _, _, h, _ => h.elim

/-- A row of extents of the call's own is a list of extents. -/
theorem XIs.of_owns {w : World} {base n : Nat} {v : Value} {cs : List Value} {xs : List PX} (h : w.ownsRow base 40 2 v n cs) (hc : XCells cs xs) (hn : xs.length = n) (h3 : n ≤ 3) : ∃ ao cap, v = .slice ao n cap ∧ XIs w ao n xs ∧ (n ≤ cap ∧ cap ≤ 9223372036854775807) ∧ ∀ b o s, ao = some ⟨b, o, s⟩ → base ≤ b := by
  rcases h.2 with ⟨hv, h0⟩ | ⟨g, cap, cur, hv, hg, hh, hcap, hmax, _⟩
  · subst h0
    have : xs = [] := List.length_eq_zero_iff.1 hn
    subst this
    exact ⟨none, 0, hv, XIs.nil w, by decide, fun b o s h => by cases h⟩
  · refine ⟨some ⟨g, 0, none⟩, cap, hv, ⟨hn, h3, Or.inr ⟨g, 0, rfl, fun i x hx => ?_⟩⟩, ⟨hcap, by unfold maxLen at hmax; omega⟩, fun b o s h => by cases h; exact hg⟩
    have hcell := h.cells (g := g) (by rw [hv]; rfl)
    obtain ⟨h1, u, h2, h3⟩ := hc.at hx
    have c1 := hcell _ _ h1
    have c2 := hcell _ _ h2
    rw [Go.WideShapes.add_plain] at c1 c2
    exact ⟨c1, u, c2, h3⟩

def slots9 (x y z : PX) : Value := .agg #[.int .i64 x.a, .int .i64 x.f, .int .i64 x.c, .int .i64 y.a, .int .i64 y.f, .int .i64 y.c, .int .i64 z.a, .int .i64 z.f, .int .i64 z.c]

theorem wp_index9 {ops : Array Oper} {rest : List Oper} {o : Oper} {a : Act} {w : World} {Q : Exit → Act → World → Prop} (hgd : o.guard = none) (x i : Operand) (t : TypeId) (ho : o.op = .index t x i) (v : Value)
    (hr : ∀ w, (Instr.index t (a.eval x) (a.eval i)).run Try.prog w = .ok v w) (h : wpList Try.prog ops Q rest (a.put o.dst v) w) : wpList Try.prog ops Q (o :: rest) a w := by
  refine wpList_plain hgd fun K hK => ?_
  unfold Oper.wp
  simp [execOp, ho, hr, Result.andThen]
  exact hK _ _ h

theorem idx9 (a b c d e f g h k : Value) (i : Nat) (hi : i < 3) (u v y : Value) (he : (#[a, b, c, d, e, f, g, h, k] : Array Value).extract (i * 3) (i * 3 + 3) = #[u, v, y]) : ∀ w, (Instr.index 45 (.agg #[a, b, c, d, e, f, g, h, k]) (.int .i64 (i : Int))).run Try.prog w = .ok (.agg #[u, v, y]) w := by
  intro w
  have z := Try.sizeOf44
  have ag := Try.isAgg44
  have h3 : (i : Int) < 3 := by omega
  unfold Instr.index part
  have he' : (List.take 3 (List.drop (i * 3) [a, b, c, d, e, f, g, h, k])).toArray = #[u, v, y] := by simpa using he
  simp [asIntOf, run_underlying Try.underlying45, z, ag, h3, Result.andThen]
  rw [if_pos hi, he']

theorem takeWhile_at {p : PX → Bool} {l : List PX} {i : Nat} {x : PX} (h : l[i]? = some x) (h0 : (l.take i).takeWhile p = l.take i) : (p x = true → (l.take (i + 1)).takeWhile p = l.take (i + 1)) ∧ (p x = false → l.takeWhile p = l.take i) := by
  have hd := drop_at h
  have hl : l = l.take i ++ (x :: l.drop (i + 1)) := by rw [← hd, List.take_append_drop]
  constructor
  · intro hp
    rw [take_at h, List.takeWhile_append, h0, if_pos rfl]
    simp [hp]
  · intro hp
    conv => lhs; rw [hl]
    rw [List.takeWhile_append, h0, if_pos rfl]
    simp [hp]

set_option maxRecDepth 100000 in
set_option maxHeartbeats 6400000 in
theorem fromSlots_any (x y z : PX) (w : World) (hx : smallX x) (hy : smallX y) (hz : smallX z) :
    Calls Try.prog 19 #[slots9 x y z] w fun e w' => ∃ ao m cap, e = .returned (.slice ao m cap) ∧ XIs w' ao m (gotX [x, y, z]) ∧ (m ≤ cap ∧ cap ≤ 9223372036854775807) ∧ (∀ b o s, ao = some ⟨b, o, s⟩ → w.heap.size ≤ b) ∧ Below w.heap.size w w' := by
  have ES := eqS_any
  have SC := st_cx
  have HSM : Hid (∀ u ∈ [x, y, z], smallX u) := Lib.hid (fun u hu => by
    simp only [List.mem_cons, List.mem_nil_iff, or_false] at hu
    rcases hu with rfl | rfl | rfl
    · exact hx
    · exact hy
    · exact hz)
  have HTS : Hid ([x, y, z] = [x, y, z]) := Lib.hid rfl
  clear hx hy hz
  obtain ⟨xa, xf, xc⟩ := x
  obtain ⟨ya, yf, yc⟩ := y
  obtain ⟨za, zf, zc⟩ := z
  unfold slots9
  simp only
  have HB0 : Hid (Below w.heap.size w (w.alloc (.cells #[.int .i64 xa, .int .i64 xf, .int .i64 xc, .int .i64 ya, .int .i64 yf, .int .i64 yc, .int .i64 za, .int .i64 zf, .int .i64 zc] 45))) := Lib.hid ((Below.refl _ _).alloc (Nat.le_refl _) _)
  go_enter Try.func19, Try.ntmps19
  go_wp2_with fail
  go_loopw [3, 9] (fun lv iv wr => ∃ i : Int, iv = .int .i64 i ∧ (0 ≤ i ∧ i ≤ 3) ∧ Hid (∃ cs, wr.ownsRow w.heap.size 40 2 lv i.toNat cs ∧ XCells cs ((([⟨xa, xf, xc⟩, ⟨ya, yf, yc⟩, ⟨za, zf, zc⟩] : List PX).take i.toNat).map fixX)) ∧ Hid (Below w.heap.size w wr) ∧ Hid (((([⟨xa, xf, xc⟩, ⟨ya, yf, yc⟩, ⟨za, zf, zc⟩] : List PX).take i.toNat).takeWhile fun x => !decide (x = noX)) = ([⟨xa, xf, xc⟩, ⟨ya, yf, yc⟩, ⟨za, zf, zc⟩] : List PX).take i.toNat)) (fun _ iv _ => 3 - (intOf iv).toNat)
  case atStart => exact ⟨0, rfl, by decide, Lib.hid ⟨[], World.ownsRow_nil _ _ _ _, trivial⟩, HB0, Lib.hid rfl⟩
  case round =>
    obtain ⟨i, rfl, hi, HR, HB, HT⟩ := hrel
    by_cases hlt : i < 3
    · obtain ⟨cs, hown, hcs⟩ := HR.out
      have HO := Lib.hid hown
      have HCS := Lib.hid hcs
      have HZ : Hid (w.heap.size ≤ wr.heap.size) := Lib.hid HB.out.size
      clear hown hcs
      obtain rfl | rfl | rfl : i = 0 ∨ i = 1 ∨ i = 2 := by omega
      · have hs := HSM.out ⟨xa, xf, xc⟩ (by simp)
        have tw := takeWhile_at (p := fun x => !decide (x = noX)) (l := [⟨xa, xf, xc⟩, ⟨ya, yf, yc⟩, ⟨za, zf, zc⟩]) (i := 0) (x := ⟨xa, xf, xc⟩) rfl HT.out
        have cO := fun W => Of_any xf xc W hs.2
        generalize (if runOk xf xc = true then (0 : Int) else 1) = E at cO
        by_cases hz : (⟨xa, xf, xc⟩ : PX) = noX
        · have HG : Hid (gotX [⟨xa, xf, xc⟩, ⟨ya, yf, yc⟩, ⟨za, zf, zc⟩] = (([⟨xa, xf, xc⟩, ⟨ya, yf, yc⟩, ⟨za, zf, zc⟩] : List PX).take 0).map fixX) := Lib.hid (by
            unfold gotX
            rw [tw.2 (by simp [hz])])
          have e1 : xa = 0 := congrArg PX.a hz
          have e2 : xf = 0 := congrArg PX.f hz
          have e3 : xc = 0 := congrArg PX.c hz
          clear hz tw cO hs
          subst e1 e2 e3
          obtain ⟨ao, cap, rfl, hX, hc, hb⟩ := XIs.of_owns HO.out HCS.out rfl (by decide)
          have HX := Lib.hid hX
          have HC := Lib.hid hc
          have HBK := Lib.hid hb
          clear hX hc hb
          go_wp2_with (refine wp_index9 rfl (.tmp 8) (.tmp 9) 45 rfl _ (idx9 _ _ _ _ _ _ _ _ _ 0 (by decide) _ _ _ rfl) ?_)
          go_ret
          exact ⟨ao, _, cap, rfl, by rw [HG.out]; exact HX.out.later ((Below.refl _ _).alloc (Nat.le_refl _) _), HC.out, HBK.out, HB.out.alloc HB.out.size _⟩
        · have hne : (xa == 0 && (xf == 0 && xc == 0)) = false := by
            rw [Bool.eq_false_iff]
            intro h
            simp at h
            exact hz (by rw [h.1, h.2.1, h.2.2]; rfl)
          have HT1 := Lib.hid (tw.1 (by simp [hz]))
          have hF : ∀ w, (Op.equalIn 10000 44 (.agg #[.int .i64 xa, .int .i64 xf, .int .i64 xc]) (.agg #[.int .i64 0, .int .i64 0, .int .i64 0])).run Try.prog w = .ok false w := fun w => by rw [eqS_any, hne]
          clear tw hs hz hne ES
          go_wp2_with (first
            | (refine wp_index9 rfl (.tmp 8) (.tmp 9) 45 rfl _ (idx9 _ _ _ _ _ _ _ _ _ 0 (by decide) _ _ _ rfl) ?_)
            | (go_at_call 30; refine (cO _).mono ?_; rintro e w3 ⟨v, rfl, hv, rfl⟩; obtain ⟨p, q, rfl, hp, hq⟩ := hv; have HV := Lib.hid (And.intro hp hq); clear hp hq)
            | (at_builtin; refine wp_append_ks elemExtent rfl (.tmp 23) (.tmp 28) rfl w.heap.size 0 _ _ rfl ((HO.out.alloc _).alloc _) ⟨wr.heap.size + 1, 0, none⟩ 1 1 [.int .i64 xa, .complex .f64 p q] rfl rfl (by have h := news_made (wr.alloc (.cells #[.int .i64 xa, .int .i64 xf, .int .i64 xc] 44)) [.int .i64 xa, .complex .f64 p q] 40; rw [World.size_alloc] at h; exact h) (by intro u hu; simp only [List.mem_cons, List.mem_nil_iff, or_false] at hu; rcases hu with rfl | rfl <;> rfl) (by decide) (by have := HZ.out; simp; omega) ?_; intro v1 w1 hown1 hg1 hb1; have HO1 := Lib.hid hown1; have HB1 := Lib.hid (((HB.out.alloc HB.out.size _).alloc (Nat.le_trans HB.out.size (by simp)) _).trans hb1); clear hown1 hg1 hb1))
          go_roundw
          case rel => exact ⟨1, by go_num, by decide, Lib.hid ⟨_, HO1.out, XCells.snoc (x := fixX ⟨xa, xf, xc⟩) HCS.out ⟨p, q, rfl, HV.out.1, HV.out.2⟩⟩, HB1, HT1⟩
          case measure => simp [intOf]
      · have hs := HSM.out ⟨ya, yf, yc⟩ (by simp)
        have tw := takeWhile_at (p := fun x => !decide (x = noX)) (l := [⟨xa, xf, xc⟩, ⟨ya, yf, yc⟩, ⟨za, zf, zc⟩]) (i := 1) (x := ⟨ya, yf, yc⟩) rfl HT.out
        have cO := fun W => Of_any yf yc W hs.2
        generalize (if runOk yf yc = true then (0 : Int) else 1) = E at cO
        by_cases hz : (⟨ya, yf, yc⟩ : PX) = noX
        · have HG : Hid (gotX [⟨xa, xf, xc⟩, ⟨ya, yf, yc⟩, ⟨za, zf, zc⟩] = (([⟨xa, xf, xc⟩, ⟨ya, yf, yc⟩, ⟨za, zf, zc⟩] : List PX).take 1).map fixX) := Lib.hid (by
            unfold gotX
            rw [tw.2 (by simp [hz])])
          have e1 : ya = 0 := congrArg PX.a hz
          have e2 : yf = 0 := congrArg PX.f hz
          have e3 : yc = 0 := congrArg PX.c hz
          clear hz tw cO hs
          subst e1 e2 e3
          obtain ⟨ao, cap, rfl, hX, hc, hb⟩ := XIs.of_owns HO.out HCS.out rfl (by decide)
          have HX := Lib.hid hX
          have HC := Lib.hid hc
          have HBK := Lib.hid hb
          clear hX hc hb
          go_wp2_with (refine wp_index9 rfl (.tmp 8) (.tmp 9) 45 rfl _ (idx9 _ _ _ _ _ _ _ _ _ 1 (by decide) _ _ _ rfl) ?_)
          go_ret
          exact ⟨ao, _, cap, rfl, by rw [HG.out]; exact HX.out.later ((Below.refl _ _).alloc (Nat.le_refl _) _), HC.out, HBK.out, HB.out.alloc HB.out.size _⟩
        · have hne : (ya == 0 && (yf == 0 && yc == 0)) = false := by
            rw [Bool.eq_false_iff]
            intro h
            simp at h
            exact hz (by rw [h.1, h.2.1, h.2.2]; rfl)
          have HT1 := Lib.hid (tw.1 (by simp [hz]))
          have hF : ∀ w, (Op.equalIn 10000 44 (.agg #[.int .i64 ya, .int .i64 yf, .int .i64 yc]) (.agg #[.int .i64 0, .int .i64 0, .int .i64 0])).run Try.prog w = .ok false w := fun w => by rw [eqS_any, hne]
          clear tw hs hz hne ES
          go_wp2_with (first
            | (refine wp_index9 rfl (.tmp 8) (.tmp 9) 45 rfl _ (idx9 _ _ _ _ _ _ _ _ _ 1 (by decide) _ _ _ rfl) ?_)
            | (go_at_call 30; refine (cO _).mono ?_; rintro e w3 ⟨v, rfl, hv, rfl⟩; obtain ⟨p, q, rfl, hp, hq⟩ := hv; have HV := Lib.hid (And.intro hp hq); clear hp hq)
            | (at_builtin; refine wp_append_ks elemExtent rfl (.tmp 23) (.tmp 28) rfl w.heap.size 1 _ _ rfl ((HO.out.alloc _).alloc _) ⟨wr.heap.size + 1, 0, none⟩ 1 1 [.int .i64 ya, .complex .f64 p q] rfl rfl (by have h := news_made (wr.alloc (.cells #[.int .i64 ya, .int .i64 yf, .int .i64 yc] 44)) [.int .i64 ya, .complex .f64 p q] 40; rw [World.size_alloc] at h; exact h) (by intro u hu; simp only [List.mem_cons, List.mem_nil_iff, or_false] at hu; rcases hu with rfl | rfl <;> rfl) (by decide) (by have := HZ.out; simp; omega) ?_; intro v1 w1 hown1 hg1 hb1; have HO1 := Lib.hid hown1; have HB1 := Lib.hid (((HB.out.alloc HB.out.size _).alloc (Nat.le_trans HB.out.size (by simp)) _).trans hb1); clear hown1 hg1 hb1))
          go_roundw
          case rel => exact ⟨2, by go_num, by decide, Lib.hid ⟨_, HO1.out, XCells.snoc (x := fixX ⟨ya, yf, yc⟩) HCS.out ⟨p, q, rfl, HV.out.1, HV.out.2⟩⟩, HB1, HT1⟩
          case measure => simp [intOf]
      · have hs := HSM.out ⟨za, zf, zc⟩ (by simp)
        have tw := takeWhile_at (p := fun x => !decide (x = noX)) (l := [⟨xa, xf, xc⟩, ⟨ya, yf, yc⟩, ⟨za, zf, zc⟩]) (i := 2) (x := ⟨za, zf, zc⟩) rfl HT.out
        have cO := fun W => Of_any zf zc W hs.2
        generalize (if runOk zf zc = true then (0 : Int) else 1) = E at cO
        by_cases hz : (⟨za, zf, zc⟩ : PX) = noX
        · have HG : Hid (gotX [⟨xa, xf, xc⟩, ⟨ya, yf, yc⟩, ⟨za, zf, zc⟩] = (([⟨xa, xf, xc⟩, ⟨ya, yf, yc⟩, ⟨za, zf, zc⟩] : List PX).take 2).map fixX) := Lib.hid (by
            unfold gotX
            rw [tw.2 (by simp [hz])])
          have e1 : za = 0 := congrArg PX.a hz
          have e2 : zf = 0 := congrArg PX.f hz
          have e3 : zc = 0 := congrArg PX.c hz
          clear hz tw cO hs
          subst e1 e2 e3
          obtain ⟨ao, cap, rfl, hX, hc, hb⟩ := XIs.of_owns HO.out HCS.out rfl (by decide)
          have HX := Lib.hid hX
          have HC := Lib.hid hc
          have HBK := Lib.hid hb
          clear hX hc hb
          go_wp2_with (refine wp_index9 rfl (.tmp 8) (.tmp 9) 45 rfl _ (idx9 _ _ _ _ _ _ _ _ _ 2 (by decide) _ _ _ rfl) ?_)
          go_ret
          exact ⟨ao, _, cap, rfl, by rw [HG.out]; exact HX.out.later ((Below.refl _ _).alloc (Nat.le_refl _) _), HC.out, HBK.out, HB.out.alloc HB.out.size _⟩
        · have hne : (za == 0 && (zf == 0 && zc == 0)) = false := by
            rw [Bool.eq_false_iff]
            intro h
            simp at h
            exact hz (by rw [h.1, h.2.1, h.2.2]; rfl)
          have HT1 := Lib.hid (tw.1 (by simp [hz]))
          have hF : ∀ w, (Op.equalIn 10000 44 (.agg #[.int .i64 za, .int .i64 zf, .int .i64 zc]) (.agg #[.int .i64 0, .int .i64 0, .int .i64 0])).run Try.prog w = .ok false w := fun w => by rw [eqS_any, hne]
          clear tw hs hz hne ES
          go_wp2_with (first
            | (refine wp_index9 rfl (.tmp 8) (.tmp 9) 45 rfl _ (idx9 _ _ _ _ _ _ _ _ _ 2 (by decide) _ _ _ rfl) ?_)
            | (go_at_call 30; refine (cO _).mono ?_; rintro e w3 ⟨v, rfl, hv, rfl⟩; obtain ⟨p, q, rfl, hp, hq⟩ := hv; have HV := Lib.hid (And.intro hp hq); clear hp hq)
            | (at_builtin; refine wp_append_ks elemExtent rfl (.tmp 23) (.tmp 28) rfl w.heap.size 2 _ _ rfl ((HO.out.alloc _).alloc _) ⟨wr.heap.size + 1, 0, none⟩ 1 1 [.int .i64 za, .complex .f64 p q] rfl rfl (by have h := news_made (wr.alloc (.cells #[.int .i64 za, .int .i64 zf, .int .i64 zc] 44)) [.int .i64 za, .complex .f64 p q] 40; rw [World.size_alloc] at h; exact h) (by intro u hu; simp only [List.mem_cons, List.mem_nil_iff, or_false] at hu; rcases hu with rfl | rfl <;> rfl) (by decide) (by have := HZ.out; simp; omega) ?_; intro v1 w1 hown1 hg1 hb1; have HO1 := Lib.hid hown1; have HB1 := Lib.hid (((HB.out.alloc HB.out.size _).alloc (Nat.le_trans HB.out.size (by simp)) _).trans hb1); clear hown1 hg1 hb1))
          go_roundw
          case rel => exact ⟨3, by go_num, by decide, Lib.hid ⟨_, HO1.out, XCells.snoc (x := fixX ⟨za, zf, zc⟩) HCS.out ⟨p, q, rfl, HV.out.1, HV.out.2⟩⟩, HB1, HT1⟩
          case measure => simp [intOf]
    · have hin : i = 3 := by omega
      subst hin
      obtain ⟨cs, hown, hcs⟩ := HR.out
      have hg : gotX [⟨xa, xf, xc⟩, ⟨ya, yf, yc⟩, ⟨za, zf, zc⟩] = ([⟨xa, xf, xc⟩, ⟨ya, yf, yc⟩, ⟨za, zf, zc⟩] : List PX).map fixX := by
        unfold gotX
        have h := HT.out
        rw [show ([⟨xa, xf, xc⟩, ⟨ya, yf, yc⟩, ⟨za, zf, zc⟩] : List PX).take (Int.toNat 3) = [⟨xa, xf, xc⟩, ⟨ya, yf, yc⟩, ⟨za, zf, zc⟩] from rfl] at h
        rw [h]
      obtain ⟨ao, cap, rfl, hX, hc, hb⟩ := XIs.of_owns hown hcs rfl (by decide)
      have HX := Lib.hid hX
      have HBK := Lib.hid hb
      clear hb
      have HG := Lib.hid hg
      clear hX hg hown hcs
      go_wp2_with fail
      go_ret
      exact ⟨ao, _, cap, rfl, by rw [HG.out]; exact HX.out, hc, HBK.out, HB.out⟩

end Go.Proofs.Ytojfhhmjoledjaa
