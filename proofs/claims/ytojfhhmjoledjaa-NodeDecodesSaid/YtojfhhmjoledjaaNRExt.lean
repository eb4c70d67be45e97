/-
  Proved here: what the document's own Extents (drydockref09) answers.
  The conditions stand at each theorem.
-/
import Derived.Test.YtojfhhmjoledjaaNRef1
import Derived.Test.YtojfhhmjoledjaaNSnd
namespace Go.Proofs.Ytojfhhmjoledjaa
open Go.RowKit
set_option linter.unusedVariables false
set_option linter.unusedSimpArgs false

/-- Is a block in a run, in any of some runs? -/
def inX (y : PX) (n : Int) : Bool := decide (y.f ≤ n ∧ n < y.f + y.c)
def inAny (l : List PX) (n : Int) : Bool := l.any fun y => inX y n

theorem meets_iff (x y : PX) : meetsX x y = true ↔ ∃ n, (x.f ≤ n ∧ n < x.f + x.c) ∧ inX y n = true := by
  unfold meetsX meetN inX
  rw [decide_eq_true_iff]
  constructor
  · intro h
    refine ⟨max x.f y.f, by omega, decide_eq_true (by omega)⟩
  · rintro ⟨n, h1, h2⟩
    have h2 := of_decide_eq_true h2
    omega

theorem any_meets_iff (x : PX) (l : List PX) : l.any (meetsX x) = true ↔ ∃ n, (x.f ≤ n ∧ n < x.f + x.c) ∧ inAny l n = true := by
  rw [List.any_eq_true]
  unfold inAny
  constructor
  · rintro ⟨y, hy, h⟩
    obtain ⟨n, h1, h2⟩ := (meets_iff x y).1 h
    exact ⟨n, h1, List.any_eq_true.2 ⟨y, hy, h2⟩⟩
  · rintro ⟨n, h1, h2⟩
    obtain ⟨y, hy, h⟩ := List.any_eq_true.1 h2
    exact ⟨y, hy, (meets_iff x y).2 ⟨n, h1, h⟩⟩

theorem inAny_snoc (l : List PX) (x : PX) (n : Int) : inAny (l ++ [x]) n = (inAny l n || inX x n) := by
  unfold inAny; rw [List.any_append]; simp

/-- The place that no extent goes on at: -1, or 0. -/
theorem soundFrom_begin (l : List PX) : soundFrom [] 0 (-1) l = soundFrom [] 0 0 l := by
  cases l with
  | nil => rfl
  | cons x r =>
    have h : okX 0 (-1) x = okX 0 0 x := by
      unfold okX
      by_cases h59 : 59 ≤ x.f
      · have e1 : decide (x.a = 0 ∧ x.f = -1) = false := decide_eq_false (by omega)
        have e2 : decide (x.a = 0 ∧ x.f = 0) = false := decide_eq_false (by omega)
        rw [e1, e2]
      · rw [decide_eq_false h59]; simp
    show (okX 0 (-1) x && _) = (okX 0 0 x && _)
    rw [h]

/-- The blocks of a device, in memory: which are taken. -/
def DiskAre (w0 : World) (g : Nat) (P : Nat → Bool) (wr : World) : Prop :=
  Below w0.heap.size w0 wr ∧ (∀ n, n < 480 → wr.cell? ⟨g, n, none⟩ = some (.bool (P n))) ∧ ∀ j, wr.frozen? ⟨g, j, none⟩ = false

theorem DiskAre.later {w0 wr wx : World} {g : Nat} {P : Nat → Bool} (h : DiskAre w0 g P wr) (hb : Below wr.heap.size wr wx) : DiskAre w0 g P wx := by
  have hlt : g < wr.heap.size := World.block_lt_of_cell? _ _ (h.2.1 0 (by decide))
  exact ⟨h.1.trans (hb.mono h.1.size), fun n hn => cell_later hb (h.2.1 n hn), fun j => by rw [hb.frozen (p := ⟨g, j, none⟩) hlt]; exact h.2.2 j⟩

theorem DiskAre.set {w0 wr : World} {g k : Nat} {P : Nat → Bool} (h : DiskAre w0 g P wr) (hg : w0.heap.size ≤ g) (hk : k < 480) : DiskAre w0 g (fun n => if n = k then true else P n) (wr.setCell ⟨g, k, none⟩ (.bool true)) := by
  refine ⟨h.1.setCell (p := ⟨g, k, none⟩) hg _, fun n hn => ?_, fun j => by simpa using h.2.2 j⟩
  show (wr.setCell ⟨g, k, none⟩ (.bool true)).cell? ⟨g, n, none⟩ = some (.bool (if n = k then true else P n))
  by_cases e : n = k
  · subst e
    rw [if_pos rfl]
    exact World.cell?_setCell_same wr _ _ (h.2.1 n hn)
  · rw [if_neg e, World.cell?_setCell_other (h := by intro e'; exact e (by simpa using (congrArg Addr.off e').symm))]
    exact h.2.1 n hn

theorem DiskAre.congr {w0 wr : World} {g : Nat} {P Q : Nat → Bool} (h : DiskAre w0 g P wr) (he : ∀ n, n < 480 → P n = Q n) : DiskAre w0 g Q wr :=
  ⟨h.1, fun n hn => by rw [h.2.1 n hn, he n hn], h.2.2⟩

theorem elemBool9 : Elem 94 4 (.bool false) 1 := ⟨Try.underlying94, by kernel_rfl, rfl, by decide⟩

theorem disk_new (w : World) : DiskAre w w.heap.size (fun _ => false) (w.alloc (.cells (madeCells (Value.bool false).cells 480) 4)) := by
  refine ⟨(Below.refl _ _).alloc (Nat.le_refl _) _, fun n hn => ?_, fun j => by rw [World.frozen?_alloc_mark]; simp⟩
  rw [World.cell?_alloc_new]
  show (madeCells #[Value.bool false] 480)[n]? = _
  simp [madeCells, hn, Nat.mod_one]

set_option maxRecDepth 100000 in
set_option maxHeartbeats 6400000 in
theorem Extents09_any {w : World} {ao : Option Addr} {m cap : Nat} {xs : List PX} (hX : XIs w ao m xs) (hs : ∀ x ∈ xs, smallX x) :
    Calls Try.prog 38 #[.slice ao m cap] w fun e w' => e = .returned (.bool (soundFrom [] 0 0 xs)) ∧ Below w.heap.size w w' := by
  rw [← soundFrom_begin]
  have hm := hX.2.1
  have HL := Lib.hid hX
  have HSM := Lib.hid hs
  have HWL := Lib.hid hX.1
  have hmk := run_make_vals elemBool9 w 480 (by decide)
  rw [show ((480 : Nat) : Int) = 480 from rfl] at hmk
  have HD0 := Lib.hid (disk_new w)
  clear hX hs
  generalize w.alloc (.cells (madeCells (Value.bool false).cells 480) 4) = W1 at *
  obtain ⟨R, hR⟩ : ∃ R, soundFrom [] 0 (-1) xs = R := ⟨_, rfl⟩
  have HR := Lib.hid hR
  rw [hR]
  clear hR
  go_enter Try.func38, Try.ntmps38
  go_wp2_with fail
  go_loopw [4, 5, 6] (fun ev bv iv wr => ∃ (i : Nat) (e b : Int), iv = .int .i64 (i : Int) ∧ ev = .int .i64 e ∧ bv = .int .i64 b ∧ i ≤ m ∧ (0 ≤ e ∧ e ≤ 600 ∧ -1 ≤ b ∧ b ≤ 600) ∧ Hid (DiskAre w w.heap.size (fun n => inAny (xs.take i) n) wr) ∧ Hid (R = soundFrom (xs.take i) e b (xs.drop i))) (fun _ _ iv _ => m - (intOf iv).toNat)
  case atStart => exact ⟨0, 0, -1, rfl, rfl, rfl, Nat.zero_le _, by decide, Lib.hid (HD0.out.congr (fun n _ => rfl)), Lib.hid (by rw [← HR.out]; simp)⟩
  case round =>
    obtain ⟨i, e, b, rfl, rfl, rfl, hi, heb, HD, HF⟩ := hrel
    obtain ⟨w1, hw1⟩ : ∃ w1, w1 = wr := ⟨_, rfl⟩
    subst hw1
    by_cases hlt : i < m
    · obtain ⟨g, off, x, p, q, rfl, hx, hmem, c1, c2, f1, f2⟩ := HL.out.at hlt
      have d1 : w1.cell? ⟨g, off + i * 2, none⟩ = some (.int .i64 x.a) := cell_later HD.out.1 c1
      have d2 : w1.cell? ⟨g, off + i * 2 + 1, none⟩ = some (.complex .f64 p q) := cell_later HD.out.1 c2
      have i1 : (i : Int) < (m : Int) := by omega
      have hsx := HSM.out x hmem
      have cP := fun W => Parts02_any p q x.f x.c W f1 f2 hsx.2
      have HN : Hid (R = (okX e b x && (!((xs.take i).any (meetsX x)) && soundFrom (xs.take (i + 1)) (x.a + x.c) (x.f + x.c) (xs.drop (i + 1))))) := Lib.hid (by rw [HF.out, soundFrom_at hx])
      have HT1 := Lib.hid (take_at hx)
      have HMI := Lib.hid (any_meets_iff x (xs.take i))
      have HGL : Hid (g < w.heap.size) := Lib.hid (World.block_lt_of_cell? _ _ c1)
      have HC1 : Hid (∀ W, Below w1.heap.size w1 W → W.cell? ⟨g, off + i * 2, none⟩ = some (.int .i64 x.a)) := Lib.hid (fun W hW => cell_later hW (cell_later HD.out.1 c1))
      obtain ⟨⟨ha0, ha1⟩, hf0, hf1, hc0, hc1⟩ := hsx
      obtain ⟨a, f, c⟩ := x
      simp only at *
      clear hx c1 c2 f1 f2 hmem
      have hw96 : IntKind.i64.wrap (96 - c) = 96 - c := by rw [IntKind.wrap_i64]; omega
      by_cases hok : runOk f c = true
      case neg =>
        rw [Bool.not_eq_true] at hok; rw [hok] at cP
        have HA : Hid (R = false) := Lib.hid (by rw [HN.out]; unfold okX; simp only; rw [hok]; simp)
        go_wp2_with (go_at_call 39; refine (cP _).mono ?_; rintro e' w3 ⟨rfl, hb3⟩; have D3 := Lib.hid (HD.out.later hb3); have k1 := HC1.out w3 hb3; clear hb3)
        go_ret
        exact ⟨by rw [HA.out]; rfl, D3.out.1⟩
      rw [hok] at cP
      by_cases hf : 59 ≤ f
      case neg =>
        have hf' : f < 59 := by omega
        have HA : Hid (R = false) := Lib.hid (by rw [HN.out]; unfold okX; simp only; rw [decide_eq_false hf]; simp)
        go_wp2_with (go_at_call 39; refine (cP _).mono ?_; rintro e' w3 ⟨rfl, hb3⟩; have D3 := Lib.hid (HD.out.later hb3); have k1 := HC1.out w3 hb3; clear hb3)
        go_ret
        exact ⟨by rw [HA.out]; rfl, D3.out.1⟩
      have hf' : ¬ f < 59 := by omega
      by_cases he : e ≤ a
      case neg =>
        have he' : a < e := by omega
        have HA : Hid (R = false) := Lib.hid (by rw [HN.out]; unfold okX; simp only; rw [decide_eq_false (show ¬ (e ≤ a ∧ a ≤ 96 - c) from fun h => he h.1)]; simp)
        go_wp2_with (go_at_call 39; refine (cP _).mono ?_; rintro e' w3 ⟨rfl, hb3⟩; have D3 := Lib.hid (HD.out.later hb3); have k1 := HC1.out w3 hb3; clear hb3)
        go_ret
        exact ⟨by rw [HA.out]; rfl, D3.out.1⟩
      have he' : ¬ a < e := by omega
      by_cases h96 : a ≤ 96 - c
      case neg =>
        have h96' : 96 - c < a := by omega
        have HA : Hid (R = false) := Lib.hid (by rw [HN.out]; unfold okX; simp only; rw [decide_eq_false (show ¬ (e ≤ a ∧ a ≤ 96 - c) from fun h => h96 h.2)]; simp)
        go_wp2_with (go_at_call 39; refine (cP _).mono ?_; rintro e' w3 ⟨rfl, hb3⟩; have D3 := Lib.hid (HD.out.later hb3); have k1 := HC1.out w3 hb3; clear hb3)
        go_ret
        exact ⟨by rw [HA.out]; rfl, D3.out.1⟩
      have h96' : ¬ 96 - c < a := by omega
      have hrun := runOk_true hok
      by_cases hab : a = e ∧ f = b
      case pos =>
        have HA : Hid (R = false) := Lib.hid (by rw [HN.out]; unfold okX; simp only; rw [decide_eq_true hab]; simp)
        obtain ⟨g1, g2⟩ := hab
        have z1 : (a == e) = true := by simp [g1]
        have z2 : (f == b) = true := by simp [g2]
        have z3 : decide (a = e) = true := by simp [g1]
        have z4 : decide (f = b) = true := by simp [g2]
        clear g1 g2
        go_wp2_with (go_at_call 39; refine (cP _).mono ?_; rintro e' w3 ⟨rfl, hb3⟩; have D3 := Lib.hid (HD.out.later hb3); have k1 := HC1.out w3 hb3; clear hb3)
        go_ret
        exact ⟨by rw [HA.out]; rfl, D3.out.1⟩
      have HOK : Hid (R = (!((xs.take i).any (meetsX ⟨a, f, c⟩)) && soundFrom (xs.take (i + 1)) (a + c) (f + c) (xs.drop (i + 1)))) := Lib.hid (by
        rw [HN.out]
        unfold okX
        simp only
        rw [hok, decide_eq_true hf, decide_eq_true (And.intro he h96), decide_eq_false hab]
        rfl)
      clear hok
      have hz1 : IntKind.i64.wrap (a + c) = a + c := by rw [IntKind.wrap_i64]; omega
      have hz2 : IntKind.i64.wrap (f + c) = f + c := by rw [IntKind.wrap_i64]; omega
      by_cases hae : a = e
      · have hfb : ¬ f = b := fun h => hab ⟨hae, h⟩
        have z1 : (a == e) = true := by simp [hae]
        have z2 : (f == b) = false := by simp [hfb]
        have z3 : decide (a = e) = true := by simp [hae]
        have z4 : decide (f = b) = false := by simp [hfb]
        clear hae hfb hab
        go_wp2_with (go_at_call 39; refine (cP _).mono ?_; rintro e' w3 ⟨rfl, hb3⟩; have D3 := Lib.hid (HD.out.later hb3); have k1 := HC1.out w3 hb3; clear hb3)
        go_loopw [10] (fun nv wr => ∃ n : Int, nv = .int .i64 n ∧ (f ≤ n ∧ n ≤ f + c) ∧ Hid (DiskAre w w.heap.size (fun k => inAny (xs.take i) k || decide (f ≤ (k : Int) ∧ (k : Int) < n)) wr) ∧ Hid (∀ k : Int, f ≤ k → k < n → inAny (xs.take i) k = false) ∧ Hid (wr.cell? ⟨g, off + i * 2, none⟩ = some (.int .i64 a))) (fun nv _ => (f + c - intOf nv).toNat)
        case atStart => exact ⟨f, rfl, by omega, Lib.hid (D3.out.congr (fun k _ => by rw [decide_eq_false (by omega)]; simp)), Lib.hid (fun k h1 h2 => by omega), Lib.hid k1⟩
        case round =>
          obtain ⟨n, rfl, hn, HDN, HQ, HK1⟩ := hrel
          have hwn : IntKind.i64.wrap (n + 1) = n + 1 := by rw [IntKind.wrap_i64]; omega
          by_cases hnlt : n < f + c
          · have u1 := HDN.out.2.1 n.toNat (by omega)
            have u2 := HDN.out.2.2 n.toNat
            have hn0 : (0 : Int) ≤ n := by omega
            have hn480 : n < (480 : Int) := by omega
            have hnn : ((n.toNat : Nat) : Int) = n := by omega
            dsimp only at u1
            rw [hnn, decide_eq_false (show ¬ (f ≤ n ∧ n < n) by omega), Bool.or_false] at u1
            cases hb : inAny (xs.take i) n with
            | true =>
              rw [hb] at u1
              have HA : Hid (R = false) := Lib.hid (by rw [HOK.out, HMI.out.2 ⟨n, ⟨hn.1, hnlt⟩, hb⟩]; rfl)
              clear hb
              go_wp2_with fail
              go_ret
              exact ⟨by rw [HA.out]; rfl, HDN.out.1⟩
            | false =>
              rw [hb] at u1
              have HB := Lib.hid hb
              clear hb
              go_wp2_with fail
              go_roundw
              case rel => exact ⟨n + 1, by go_num, by omega, Lib.hid ((HDN.out.set (Nat.le_refl _) (k := n.toNat) (by omega)).congr (fun k hk => by
                  by_cases e : k = n.toNat
                  · subst e
                    rw [if_pos rfl, hnn, decide_eq_true (show f ≤ n ∧ n < n + 1 by omega), Bool.or_true]
                  · rw [if_neg e]
                    congr 1
                    rw [Bool.eq_iff_iff, decide_eq_true_iff, decide_eq_true_iff]
                    omega)), Lib.hid (fun k h1 h2 => by
                  by_cases e : k = n
                  · rw [e]; exact HB.out
                  · exact HQ.out k h1 (by omega)), Lib.hid (by rw [World.cell?_setCell_other (h := by intro e; exact absurd (congrArg Addr.block e) (Nat.ne_of_gt HGL.out))]; exact HK1.out)⟩
              case measure => simp [intOf]; omega
          · have hnf : n = f + c := by omega
            subst hnf
            have HT : Hid (R = soundFrom (xs.take (i + 1)) (a + c) (f + c) (xs.drop (i + 1))) := Lib.hid (by
              have h : (xs.take i).any (meetsX ⟨a, f, c⟩) = false := by
                rw [Bool.eq_false_iff]
                intro h
                obtain ⟨k, h1, h2⟩ := HMI.out.1 h
                rw [HQ.out k h1.1 h1.2] at h2
                cases h2
              rw [HOK.out, h]
              rfl)
            have v1 := HK1.out
            go_wp2_with fail
            go_roundw
            case rel => exact ⟨i + 1, a + c, f + c, by go_num, rfl, rfl, by omega, by omega, Lib.hid (HDN.out.congr (fun k _ => by rw [HT1.out, inAny_snoc]; rfl)), HT⟩
            case measure => simp [intOf]; omega
      · have z1 : (a == e) = false := by simp [hae]
        have z3 : decide (a = e) = false := by simp [hae]
        clear hae hab
        go_wp2_with (go_at_call 39; refine (cP _).mono ?_; rintro e' w3 ⟨rfl, hb3⟩; have D3 := Lib.hid (HD.out.later hb3); have k1 := HC1.out w3 hb3; clear hb3)
        go_loopw [10] (fun nv wr => ∃ n : Int, nv = .int .i64 n ∧ (f ≤ n ∧ n ≤ f + c) ∧ Hid (DiskAre w w.heap.size (fun k => inAny (xs.take i) k || decide (f ≤ (k : Int) ∧ (k : Int) < n)) wr) ∧ Hid (∀ k : Int, f ≤ k → k < n → inAny (xs.take i) k = false) ∧ Hid (wr.cell? ⟨g, off + i * 2, none⟩ = some (.int .i64 a))) (fun nv _ => (f + c - intOf nv).toNat)
        case atStart => exact ⟨f, rfl, by omega, Lib.hid (D3.out.congr (fun k _ => by rw [decide_eq_false (by omega)]; simp)), Lib.hid (fun k h1 h2 => by omega), Lib.hid k1⟩
        case round =>
          obtain ⟨n, rfl, hn, HDN, HQ, HK1⟩ := hrel
          have hwn : IntKind.i64.wrap (n + 1) = n + 1 := by rw [IntKind.wrap_i64]; omega
          by_cases hnlt : n < f + c
          · have u1 := HDN.out.2.1 n.toNat (by omega)
            have u2 := HDN.out.2.2 n.toNat
            have hn0 : (0 : Int) ≤ n := by omega
            have hn480 : n < (480 : Int) := by omega
            have hnn : ((n.toNat : Nat) : Int) = n := by omega
            dsimp only at u1
            rw [hnn, decide_eq_false (show ¬ (f ≤ n ∧ n < n) by omega), Bool.or_false] at u1
            cases hb : inAny (xs.take i) n with
            | true =>
              rw [hb] at u1
              have HA : Hid (R = false) := Lib.hid (by rw [HOK.out, HMI.out.2 ⟨n, ⟨hn.1, hnlt⟩, hb⟩]; rfl)
              clear hb
              go_wp2_with fail
              go_ret
              exact ⟨by rw [HA.out]; rfl, HDN.out.1⟩
            | false =>
              rw [hb] at u1
              have HB := Lib.hid hb
              clear hb
              go_wp2_with fail
              go_roundw
              case rel => exact ⟨n + 1, by go_num, by omega, Lib.hid ((HDN.out.set (Nat.le_refl _) (k := n.toNat) (by omega)).congr (fun k hk => by
                  by_cases e : k = n.toNat
                  · subst e
                    rw [if_pos rfl, hnn, decide_eq_true (show f ≤ n ∧ n < n + 1 by omega), Bool.or_true]
                  · rw [if_neg e]
                    congr 1
                    rw [Bool.eq_iff_iff, decide_eq_true_iff, decide_eq_true_iff]
                    omega)), Lib.hid (fun k h1 h2 => by
                  by_cases e : k = n
                  · rw [e]; exact HB.out
                  · exact HQ.out k h1 (by omega)), Lib.hid (by rw [World.cell?_setCell_other (h := by intro e; exact absurd (congrArg Addr.block e) (Nat.ne_of_gt HGL.out))]; exact HK1.out)⟩
              case measure => simp [intOf]; omega
          · have hnf : n = f + c := by omega
            subst hnf
            have HT : Hid (R = soundFrom (xs.take (i + 1)) (a + c) (f + c) (xs.drop (i + 1))) := Lib.hid (by
              have h : (xs.take i).any (meetsX ⟨a, f, c⟩) = false := by
                rw [Bool.eq_false_iff]
                intro h
                obtain ⟨k, h1, h2⟩ := HMI.out.1 h
                rw [HQ.out k h1.1 h1.2] at h2
                cases h2
              rw [HOK.out, h]
              rfl)
            have v1 := HK1.out
            go_wp2_with fail
            go_roundw
            case rel => exact ⟨i + 1, a + c, f + c, by go_num, rfl, rfl, by omega, by omega, Lib.hid (HDN.out.congr (fun k _ => by rw [HT1.out, inAny_snoc]; rfl)), HT⟩
            case measure => simp [intOf]; omega
    · have hin : i = m := by omega
      subst hin
      have HA : Hid (R = true) := Lib.hid (by rw [HF.out, ← HWL.out, List.drop_length]; rfl)
      have HB := Lib.hid HD.out.1
      go_wp2_with fail
      go_ret
      exact ⟨by rw [HA.out]; rfl, HB.out⟩

end Go.Proofs.Ytojfhhmjoledjaa
