/-
  Proved here: what the document's own From answers of sound pointers.
  The conditions stand at each theorem.
-/
import Derived.Test.YtmkibjppnlmehaaExtStep
import Derived.Test.YtmkibjppnlmehaaExtMem
import Derived.Test.YtmkibjppnlmehaaExtents
namespace Go.Proofs.Ytmkibjppnlmehaa
open Go.RowKit
set_option linter.unusedVariables false
set_option linter.unusedSimpArgs false

set_option maxHeartbeats 400000 in
theorem RRun_any {a b : Int} (w : World) (ha : 0 ≤ a ∧ a ≤ 100000) (hb : 1 ≤ b ∧ b ≤ 100000) :
    Calls Try.prog 20 #[.int .i64 a, .int .i64 b] w fun e w' => ∃ p q, e = .returned (.complex .f64 p q) ∧ FI p a ∧ FI q b ∧ w = w' := by
  have h1 : ¬ b ≤ 0 := by omega
  have HP := Lib.hid (fi_ofInt a (by omega))
  have HQ := Lib.hid (fi_ofInt b (by omega))
  clear ha hb
  go_enter Try.func20, Try.ntmps20
  go_wp2
  go_ret
  exact ⟨_, _, rfl, HP.out, HQ.out, rfl⟩

/-- What stands while the extents of pointers are found: those so far. -/
def Found12 (zs : List Int) (i : Nat) (vs : List Value) (xs : List EX) : Prop := CellsE vs xs ∧ fromE 0 zs = xs ++ fromE (i : Int) (zs.drop i)

theorem Found12.skip {zs : List Int} {i : Nat} {vs : List Value} {xs : List EX} (h : Found12 zs i vs xs) (h0 : zs.getD i 0 = 0) : Found12 zs (i + 1) vs xs := by
  refine ⟨h.1, ?_⟩
  rw [h.2, from_skip zs 1 i (fun k h1 h2 => by obtain rfl : k = i := by omega
                                               exact h0)]
theorem Found12.next {zs : List Int} {i n : Nat} {x : Int} {vs : List Value} {xs : List EX} {p q : Nat} (h : Found12 zs i vs xs) (hn : 0 < n) (hl : i + n ≤ zs.length) (hx : 0 < x) (hr : ∀ j, j < n → zs.getD (i + j) 0 = x + j) (hs : zs.getD (i + n) 0 ≠ x + n) (hp : FI p x) (hq : FI q n) :
    Found12 zs (i + n) (vs ++ [.int .i64 (i : Int), .complex .f64 p q]) (xs ++ [⟨i, x, n⟩]) := by
  refine ⟨CellsE.snoc (x := ⟨i, x, n⟩) h.1 hp hq, ?_⟩
  rw [h.2, from_run zs n i x hn hl hx hr hs, List.append_assoc]
  rfl
theorem Found12.length {zs : List Int} {i n : Nat} {vs : List Value} {xs : List EX} {w : World} {base : Nat} {e : TypeId} {v : Value} (h : Found12 zs i vs xs) (hl : zs.length ≤ 96) (ho : w.ownsRow base e 2 v n vs) : n ≤ 96 := by
  have h1 := ho.1
  have h2 := h.1.1
  have h3 := from_le zs 0
  rw [h.2, List.length_append] at h3
  omega

set_option maxRecDepth 100000 in
set_option maxHeartbeats 6400000 in
theorem RFrom_any (ao : Option Addr) (len cap : Nat) (zs : List Int) (w : World) (hA : IArg w ao len cap zs) (hok : ptrsOk zs = true) :
    Calls Try.prog 10 #[.slice ao len cap] w fun e w' => ∃ v n vs, e = .returned v ∧ w'.ownsRow w.heap.size 49 2 v n vs ∧ CellsE vs (fromE 0 zs) ∧ Below w.heap.size w w' := by
  have hl96 : zs.length ≤ 96 := by unfold ptrsOk at hok; rw [Bool.and_eq_true, decide_eq_true_eq] at hok; exact hok.1
  have hap : apartL zs = true := by unfold ptrsOk at hok; rw [Bool.and_eq_true] at hok; exact hok.2
  have HA := Lib.hid hA
  have hlen := hA.len
  have hn96 : len ≤ 96 := by omega
  have HLEN := Lib.hid hlen
  have HK := Lib.hid (fun k => ok_at hap k)
  have HL96 := Lib.hid hl96
  have hn1 : (len : Int) ≤ 96 := by omega
  clear hA hok hl96 hap hlen
  go_enter Try.func10, Try.ntmps10
  go_wp2_with fail
  go_loopw [3, 4] (fun lv iv wr => ∃ (i n : Nat) (vs : List Value) (xs : List EX), iv = .int .i64 (i : Int) ∧ i ≤ len ∧ Hid (wr.ownsRow w.heap.size 49 2 lv n vs) ∧ Hid (Found12 zs i vs xs) ∧ Hid (Below w.heap.size w wr)) (fun _ iv _ => len - (intOf iv).toNat)
  case atStart => exact ⟨0, 0, [], [], rfl, Nat.zero_le _, Lib.hid (World.ownsRow_made (base := w.heap.size) (e := 49) (size := 2) w #[] 0 (Nat.le_refl _) (by decide) rfl), Lib.hid ⟨CellsE.nil, rfl⟩, Lib.hid ((Below.refl _ _).alloc (Nat.le_refl _) _)⟩
  case round =>
    obtain ⟨i, n, vs, xs, rfl, hi, HO, HF, HB⟩ := hrel
    by_cases hlt : i < len
    · obtain ⟨b, off, x, rfl, hx, c1, hI⟩ := (HA.out.later HB.out).at hlt
      have hgx : zs.getD i 0 = x := by rw [List.getD_eq_getElem?_getD, hx]; rfl
      have hok := HK.out i
      rw [hgx] at hok
      have HGX := Lib.hid hgx
      have i1 : (i : Int) < (len : Int) := by omega
      clear hx hgx hI
      by_cases hx0 : x = 0
      · subst hx0
        have HN := Lib.hid (HF.out.skip HGX.out)
        go_wp2_with fail
        go_roundw
        case rel => exact ⟨i + 1, n, vs, xs, by go_num, by omega, HO, HN, HB⟩
        case measure => simp [intOf]; omega
      · have hx59 := hok.resolve_left hx0
        have b0 : (x == 0) = false := by simpa using hx0
        go_wp2_with fail
        go_loopw [5] (fun nv wr => ∃ k : Nat, nv = .int .i64 ((k + 1 : Nat) : Int) ∧ i + (k + 1) ≤ len ∧ Hid (∀ j, j < k + 1 → zs.getD (i + j) 0 = x + j) ∧ Hid (wr.ownsRow w.heap.size 49 2 u3 n vs) ∧ Hid (Below w.heap.size w wr)) (fun nv _ => len - (intOf nv).toNat)
        case atStart => exact ⟨0, rfl, by omega, Lib.hid (fun j hj => by obtain rfl : j = 0 := by omega
                                                                         rw [Nat.add_zero, HGX.out]; simp), HO, HB⟩
        case round =>
          obtain ⟨k, rfl, hk, HR, HOK, HBK⟩ := hrel
          clear c1 HO HB
          obtain ⟨b1, off1, x1, he1, hx1, c1, _⟩ := (HA.out.later HBK.out).at hlt
          cases he1
          have hx1' : x1 = x := by have h := HGX.out; rw [List.getD_eq_getElem?_getD, hx1] at h; exact h
          subst hx1'
          clear hx1
          obtain ⟨m, hm⟩ : ∃ m, i + (k + 1) = m := ⟨_, rfl⟩
          have k1 : (i : Int) + ((k : Int) + 1) = (m : Int) := by omega
          have k3 : -1000 ≤ x1 + ((k : Int) + 1) ∧ x1 + ((k : Int) + 1) ≤ 1000 := by omega
          have k4 : (k : Int) + 1 ≤ 1000 := by omega
          have k5 : (k : Int) ≤ 1000 := by omega
          by_cases hml : m < len
          · obtain ⟨b2, off2, y, he2, hy, c2, hIy⟩ := (HA.out.later HBK.out).at hml
            cases he2
            have hgy : zs.getD m 0 = y := by rw [List.getD_eq_getElem?_getD, hy]; rfl
            have m1 : (m : Int) < (len : Int) := by omega
            have HGY := Lib.hid hgy
            clear hy hgy hIy
            by_cases hyx : y = x1 + ((k : Int) + 1)
            · subst hyx
              have HR2 : Hid (∀ j, j < k + 1 + 1 → zs.getD (i + j) 0 = x1 + j) := Lib.hid (fun j hj => by
                by_cases hjk : j = k + 1
                · subst hjk; rw [hm, HGY.out]; omega
                · exact HR.out j (by omega))
              go_wp2_with fail
              go_quiet (fail)
              go_wp2_with fail
              go_roundw
              case rel => exact ⟨k + 1, by go_num, by omega, HR2, Lib.hid (owns_later_r HOK.out (below_drewN (Below.refl _ _) _)), Lib.hid (below_drewN HBK.out _)⟩
              case measure => simp [intOf]; omega
            · have HS : Hid (zs.getD (i + (k + 1)) 0 ≠ x1 + ((k + 1 : Nat) : Int)) := Lib.hid (by rw [hm, HGY.out]; omega)
              have b1 : (y == x1 + ((k : Int) + 1)) = false := by simpa using hyx
              go_wp2_with fail
              go_quiet (fail)
              have HO4 := Lib.hid (owns_later_r HOK.out (below_drewN (Below.refl _ wr) nq))
              have HB4 := Lib.hid (below_drewN HBK.out nq)
              have hsz : w.heap.size ≤ (wr.drewN nq).heap.size := HB4.out.size
              have HSZ := Lib.hid hsz
              have c4 : (wr.drewN nq).cell? ⟨b, off + i, none⟩ = some (.int .i64 x1) := c1
              generalize wr.drewN nq = w4 at *
              go_wp2_with (first | (at_builtin; go_loud (refine wp_append_r elemX rfl (.tmp 41) (.tmp 50) rfl w.heap.size n _ _ rfl (HO4.out.alloc _) ⟨w4.heap.size, 0, none⟩ 1 1 [.int .i64 (i : Int), .complex .f64 p q] rfl rfl (news_r w4 [.int .i64 (i : Int), .complex .f64 p q] _) (ext_one i p q) (by have := HF.out.length HL96.out HO4.out; omega) (by rw [World.size_alloc]; exact Nat.le_succ_of_le HSZ.out) ?_; intro v5 w5 hown5 hg5 hb5; have HO5 := Lib.hid hown5; have HB5 := Lib.hid ((HB4.out.alloc HSZ.out _).trans hb5); clear hown5 hg5 hb5)) | (go_at_call 20; go_loud (refine (RRun_any _ (by omega) (by omega)).mono ?_); rintro e w6 ⟨p, q, rfl, hp, hq, rfl⟩; have HP := Lib.hid hp; have HQ := Lib.hid hq; clear hp hq))
              go_roundw
              case rel => exact ⟨i + (k + 1), n + 1, _, _, by go_num, by omega, HO5, Lib.hid (HF.out.next (Nat.succ_pos k) (by rw [HLEN.out]; omega) (by omega) HR.out HS.out HP.out HQ.out), HB5⟩
              case measure => simp [intOf]; omega
          · have hml : m = len := by omega
            have HS : Hid (zs.getD (i + (k + 1)) 0 ≠ x1 + ((k + 1 : Nat) : Int)) := Lib.hid (by
              rw [List.getD_eq_getElem?_getD, List.getElem?_eq_none (by rw [HLEN.out]; omega)]
              show (0 : Int) ≠ _
              omega)
            have m1 : ¬ (m : Int) < (len : Int) := by omega
            go_wp2_with fail
            go_quiet (fail)
            have HO4 := Lib.hid (owns_later_r HOK.out (below_drewN (Below.refl _ wr) nq))
            have HB4 := Lib.hid (below_drewN HBK.out nq)
            have hsz : w.heap.size ≤ (wr.drewN nq).heap.size := HB4.out.size
            have HSZ := Lib.hid hsz
            have c4 : (wr.drewN nq).cell? ⟨b, off + i, none⟩ = some (.int .i64 x1) := c1
            generalize wr.drewN nq = w4 at *
            go_wp2_with (first | (at_builtin; go_loud (refine wp_append_r elemX rfl (.tmp 41) (.tmp 50) rfl w.heap.size n _ _ rfl (HO4.out.alloc _) ⟨w4.heap.size, 0, none⟩ 1 1 [.int .i64 (i : Int), .complex .f64 p q] rfl rfl (news_r w4 [.int .i64 (i : Int), .complex .f64 p q] _) (ext_one i p q) (by have := HF.out.length HL96.out HO4.out; omega) (by rw [World.size_alloc]; exact Nat.le_succ_of_le HSZ.out) ?_; intro v5 w5 hown5 hg5 hb5; have HO5 := Lib.hid hown5; have HB5 := Lib.hid ((HB4.out.alloc HSZ.out _).trans hb5); clear hown5 hg5 hb5)) | (go_at_call 20; go_loud (refine (RRun_any _ (by omega) (by omega)).mono ?_); rintro e w6 ⟨p, q, rfl, hp, hq, rfl⟩; have HP := Lib.hid hp; have HQ := Lib.hid hq; clear hp hq))
            go_roundw
            case rel => exact ⟨i + (k + 1), n + 1, _, _, by go_num, by omega, HO5, Lib.hid (HF.out.next (Nat.succ_pos k) (by rw [HLEN.out]; omega) (by omega) HR.out HS.out HP.out HQ.out), HB5⟩
            case measure => simp [intOf]; omega
    · have hin : i = len := by omega
      subst hin
      go_wp2_with fail
      go_ret
      have hx := HF.out.2
      rw [List.drop_of_length_le (by rw [HLEN.out]; exact Nat.le_refl _), show fromE (i : Int) [] = [] from rfl, List.append_nil] at hx
      exact ⟨_, n, vs, rfl, HO.out, by rw [hx]; exact HF.out.1, HB.out⟩

end Go.Proofs.Ytmkibjppnlmehaa
