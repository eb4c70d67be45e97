/-
  Proved here: what the library's stable sort of gaps does (slices.SortStableFunc), the comparison a plain function of two gaps: they are sorted, and equals keep their order.
  The conditions stand at each theorem.
-/
import Derived.Test.YtfhfjnfejcggcaaSymAll
namespace Go.Proofs.Ytfhfjnfejcggcaa
open Go.RowKit
open Go.Sort (swp SWO PermIn SortedIn size_swp insertionSort)

theorem cmps_lays {g : Nat} {cf : Gp → Gp → Int} (hc : Cmps g cf) (blk off size : Nat) (w : World) : CmpLays1 Try.prog g #[] encG cf blk off size w :=
  CmpReads.lays (show CmpReads Try.prog g #[] encG cf blk off size w from fun m os dk _ x y => (hc x y (sortWorld encG w blk off m dk os)).mono (by rintro e w' ⟨rfl, rfl⟩; exact ⟨rfl, 0, rfl⟩))

theorem ins_walk (g : Nat) (cf : Gp → Gp → Int) (hc : Cmps g cf) (eg : ∀ args w, (callFunc g args).run Try.prog w = .ok (.enter g args) w) (hO : SWO (ltOf cf)) (Rel : Gp → Gp → Prop) (blk off cap N a b : Nat) (d0 d : Array Gp) (w0 w : World) (R : Row1 encG w0 blk off d0) (hs0 : d0.size = N) (hs : d.size = N) (S : SW encG w0 blk off d w) (hab : a ≤ b) (hb : b ≤ N) (hN : N ≤ 481) (hst : Stab (ltOf cf) Rel d) :
    Calls Try.prog 58 #[.slice (some ⟨blk, off, none⟩) N cap, .int .i64 a, .int .i64 b, .func (.func g) #[] #[]] w (Merged cf Rel w0 blk off a b d) := by
  have h := Any.insertionSortCmpFunc_s (P := Try.prog) (ρ := insL_ren) insL encG cf g #[] blk off cap a b d0 d w0 w eg (cmps_lays hc blk off d0.size w0) R (by omega) S hab (by omega) (by omega)
  change Calls Try.prog 58 _ _ _ at h
  rw [hs] at h
  refine h.mono ?_
  rintro e w' ⟨rfl, hS⟩
  have hp := Sort.insertionSort_holds hO d a b hab (by omega)
  exact ⟨rfl, _, hp.1, hp.2, insertion_stab (by omega) hst, hS⟩

/-- What the sort has made so far: the same gaps; equals in their order. -/
def Kept (cf : Gp → Gp → Int) (Rel : Gp → Gp → Prop) (w0 : World) (blk off N : Nat) (d dk : Array Gp) (wr : World) : Prop :=
  dk.size = N ∧ PermIn 0 N d dk ∧ Stab (ltOf cf) Rel dk ∧ SW encG w0 blk off dk wr

theorem Kept.merged {cf : Gp → Gp → Int} {Rel : Gp → Gp → Prop} {w0 w' : World} {blk off N a b : Nat} {d dk D : Array Gp} {wr : World} (h : Kept cf Rel w0 blk off N d dk wr) (hb : b ≤ N) (hp : PermIn a b dk D) (hst : Stab (ltOf cf) Rel D) (hS : SW encG w0 blk off D w') : Kept cf Rel w0 blk off N d D w' :=
  ⟨by rw [hp.1]; exact h.1, Sort.permIn_trans _ _ _ _ _ h.2.1 (Sort.permIn_mono _ _ _ _ _ _ (Nat.zero_le _) hb (by rw [h.1]; exact Nat.le_refl _) hp), hst, hS⟩

set_option maxRecDepth 100000 in
set_option maxHeartbeats 4000000 in
theorem stable_any (g : Nat) (cf : Gp → Gp → Int) (hc : Cmps g cf) (eg : ∀ args w, (callFunc g args).run Try.prog w = .ok (.enter g args) w) (hO : SWO (ltOf cf)) (Rel : Gp → Gp → Prop) (blk off cap N : Nat) (d : Array Gp) (w : World) (R : Row1 encG w blk off d) (hs : d.size = N) (hN : N ≤ 481) (hst : Stab (ltOf cf) Rel d) :
    Calls Try.prog 48 #[.slice (some ⟨blk, off, none⟩) N cap, .int .i64 N, .func (.func g) #[] #[]] w (Merged cf Rel w blk off 0 N d) := by
  have HINS : Hid (∀ (a b : Nat) (dk : Array Gp) (wr : World), a ≤ b → b ≤ N → Kept cf Rel w blk off N d dk wr → Calls Try.prog 58 #[.slice (some ⟨blk, off, none⟩) N cap, .int .i64 a, .int .i64 b, .func (.func g) #[] #[]] wr (Merged cf Rel w blk off a b dk)) :=
    Lib.hid (fun a b dk wr h1 h2 h => ins_walk g cf hc eg hO Rel blk off cap N a b d dk w wr R hs h.1 h.2.2.2 h1 h2 hN h.2.2.1)
  have HSYM : Hid (∀ (a m b : Nat) (dk : Array Gp) (wr : World), a < m → m < b → b ≤ N → Kept cf Rel w blk off N d dk wr → SortedIn (ltOf cf) a m dk → SortedIn (ltOf cf) m b dk → Calls Try.prog 59 #[.slice (some ⟨blk, off, none⟩) N cap, .int .i64 a, .int .i64 m, .int .i64 b, .func (.func g) #[] #[]] wr (Merged cf Rel w blk off a b dk)) :=
    Lib.hid (fun a m b dk wr h1 h2 h3 h h4 h5 => sym_any g cf hc eg hO Rel blk off cap N d w R hs hN (b - a) a m b dk wr (Nat.le_refl _) h1 h2 h3 h.1 h.2.2.2 h4 h5 h.2.2.1)
  have K0 : Hid (Kept cf Rel w blk off N d d w) := Lib.hid ⟨hs, Sort.permIn_refl _ _ _, hst, SW.start R.hH⟩
  have B0 : Hid (∃ q, 0 = q * 20 ∧ Blocks (ltOf cf) 20 0 0 N d) := Lib.hid ⟨0, rfl, blocks_none 20 N d⟩
  clear hc hO hst R hs
  go_enter Try.func48, Try.ntmps48
  go_wp2_with fail
  go_loopw [7, 8] (fun av bv wr => ∃ (a : Nat) (dk : Array Gp), av = .int .i64 a ∧ bv = .int .i64 ((a : Int) + 20) ∧ a ≤ N ∧ Hid (∃ q, a = q * 20 ∧ Blocks (ltOf cf) 20 0 a N dk) ∧ Hid (Kept cf Rel w blk off N d dk wr)) (fun av _ _ => N - (intOf av).toNat)
  case atStart => exact ⟨0, d, rfl, rfl, Nat.zero_le _, B0, K0⟩
  case round =>
    clear K0 B0
    obtain ⟨a, dk, rfl, rfl, ha, HB, HK⟩ := hrel
    by_cases hle : a + 20 ≤ N
    · have hz : (a : Int) + 20 ≤ (N : Int) := by omega
      have c := HINS.out a (a + 20) dk wr (by omega) hle HK.out
      rw [show ((a + 20 : Nat) : Int) = (a : Int) + 20 by omega] at c
      go_wp2_with fail
      refine c.mono ?_
      rintro e w2 ⟨rfl, D, hp, ho, ht, hS⟩
      have HK2 : Hid (Kept cf Rel w blk off N d D w2) := Lib.hid (HK.out.merged hle hp ht hS)
      have HB2 : Hid (∃ q, a + 20 = q * 20 ∧ Blocks (ltOf cf) 20 0 (a + 20) N D) := Lib.hid (by
        obtain ⟨q, hq, hbl⟩ := HB.out
        refine ⟨q + 1, by omega, ?_⟩
        rw [show a + 20 = (q + 1) * 20 by omega]
        rw [hq] at hbl hp ho
        exact blocks_more hbl hp ho)
      clear c hp ho ht hS HB HK
      go_wp2_with fail
      go_roundw
      case rel => exact ⟨a + 20, D, by go_num, by first | (congr 1; done) | (congr 1; omega), hle, HB2, HK2⟩
      case measure => simp [intOf]; omega
    · have hz : ¬ (a : Int) + 20 ≤ (N : Int) := by omega
      have c := HINS.out a N dk wr ha (Nat.le_refl _) HK.out
      go_wp2_with fail
      refine c.mono ?_
      rintro e w2 ⟨rfl, D, hp, ho, ht, hS⟩
      have HK2 : Hid (Kept cf Rel w blk off N d D w2) := Lib.hid (HK.out.merged (Nat.le_refl _) hp ht hS)
      have HB2 : Hid (Blocks (ltOf cf) 20 0 N N D) := Lib.hid (by
        obtain ⟨q, hq, hbl⟩ := HB.out
        rw [hq] at hbl hp ho
        exact blocks_last hbl (by omega) hp ho)
      clear c hp ho ht hS HB HK HINS
      go_wp2_with fail
      go_loopw [6] (fun sv wr => ∃ (bs : Nat) (dk : Array Gp), sv = .int .i64 bs ∧ 20 ≤ bs ∧ bs ≤ 1000 ∧ Hid (Blocks (ltOf cf) bs 0 N N dk) ∧ Hid (Kept cf Rel w blk off N d dk wr)) (fun sv _ => N - (intOf sv).toNat)
      case atStart => exact ⟨20, D, rfl, Nat.le_refl _, by omega, HB2, HK2⟩
      case round =>
        clear HB2 HK2
        obtain ⟨bs, dk, rfl, b1, b2, HB, HK⟩ := hrel
        by_cases hlt : bs < N
        · have hltz : (bs : Int) < (N : Int) := by omega
          have HB0 : Hid (∃ q, 0 = q * (2 * bs) ∧ Blocks (ltOf cf) (2 * bs) 0 0 N dk ∧ Blocks (ltOf cf) bs 0 N N dk) := Lib.hid ⟨0, by rw [Nat.zero_mul], blocks_none _ N dk, HB.out⟩
          clear HB
          go_wp2_with fail
          go_loopw [7, 8] (fun av bv wr => ∃ (a : Nat) (dk : Array Gp), av = .int .i64 a ∧ bv = .int .i64 ((a : Int) + 2 * (bs : Int)) ∧ a ≤ N ∧ Hid (∃ q, a = q * (2 * bs) ∧ Blocks (ltOf cf) (2 * bs) 0 a N dk ∧ Blocks (ltOf cf) bs a N N dk) ∧ Hid (Kept cf Rel w blk off N d dk wr)) (fun av _ _ => N - (intOf av).toNat)
          case atStart => exact ⟨0, dk, rfl, by first | (congr 1; done) | (congr 1; omega), Nat.zero_le _, HB0, HK⟩
          case round =>
            clear HB0 HK
            obtain ⟨a, dj, rfl, rfl, ha, HB, HK⟩ := hrel
            by_cases hle : a + 2 * bs ≤ N
            · have hz : (a : Int) + 2 * (bs : Int) ≤ (N : Int) := by omega
              have c := HSYM.out a (a + bs) (a + 2 * bs) dj wr (by omega) (by omega) hle HK.out (by
                obtain ⟨q, hq, _, hbl⟩ := HB.out
                rw [hq] at hbl hle ⊢
                exact (blocks_two hbl hle (by omega)).1) (by
                obtain ⟨q, hq, _, hbl⟩ := HB.out
                rw [hq] at hbl hle ⊢
                exact (blocks_two hbl hle (by omega)).2)
              rw [show ((a + bs : Nat) : Int) = (a : Int) + (bs : Int) by omega, show ((a + 2 * bs : Nat) : Int) = (a : Int) + 2 * (bs : Int) by omega] at c
              go_wp2_with fail
              refine c.mono ?_
              rintro e w3 ⟨rfl, D3, hp, ho, ht, hS⟩
              have HK2 : Hid (Kept cf Rel w blk off N d D3 w3) := Lib.hid (HK.out.merged hle hp ht hS)
              have HB2 : Hid (∃ q, a + 2 * bs = q * (2 * bs) ∧ Blocks (ltOf cf) (2 * bs) 0 (a + 2 * bs) N D3 ∧ Blocks (ltOf cf) bs (a + 2 * bs) N N D3) := Lib.hid (by
                obtain ⟨q, hq, hb1, hb2⟩ := HB.out
                have e1 : (q + 1) * (2 * bs) = a + 2 * bs := by rw [Nat.add_mul, Nat.one_mul, ← hq]
                refine ⟨q + 1, e1.symm, ?_, blocks_ahead hb2 (by omega) (Nat.le_refl _) (fun i hi => hp.2.1 i (Or.inr hi))⟩
                rw [← e1]
                rw [hq] at hb1 hp ho
                exact blocks_more hb1 hp ho)
              clear c hp ho ht hS HB HK
              go_wp2_with fail
              go_roundw
              case rel => exact ⟨a + 2 * bs, D3, by first | (congr 1; done) | (congr 1; omega), by first | (congr 1; done) | (congr 1; omega), hle, HB2, HK2⟩
              case measure => simp [intOf]; omega
            · have hz : ¬ (a : Int) + 2 * (bs : Int) ≤ (N : Int) := by omega
              by_cases hm : a + bs < N
              · have hmz : (a : Int) + (bs : Int) < (N : Int) := by omega
                have c := HSYM.out a (a + bs) N dj wr (by omega) hm (Nat.le_refl _) HK.out (by
                  obtain ⟨q, hq, _, hbl⟩ := HB.out
                  rw [hq] at hbl hm hle ⊢
                  exact (blocks_two_last hbl hm (by omega) (by omega)).1) (by
                  obtain ⟨q, hq, _, hbl⟩ := HB.out
                  rw [hq] at hbl hm hle ⊢
                  exact (blocks_two_last hbl hm (by omega) (by omega)).2)
                rw [show ((a + bs : Nat) : Int) = (a : Int) + (bs : Int) by omega] at c
                go_wp2_with fail
                refine c.mono ?_
                rintro e w3 ⟨rfl, D3, hp, ho, ht, hS⟩
                have HK2 : Hid (Kept cf Rel w blk off N d D3 w3) := Lib.hid (HK.out.merged (Nat.le_refl _) hp ht hS)
                have HB2 : Hid (Blocks (ltOf cf) (2 * bs) 0 N N D3) := Lib.hid (by
                  obtain ⟨q, hq, hb1, hb2⟩ := HB.out
                  rw [hq] at hb1 hp ho
                  exact blocks_last hb1 (by omega) hp ho)
                clear c hp ho ht hS HB HK
                go_wp2_with fail
                go_roundw
                case rel => exact ⟨2 * bs, D3, by first | (congr 1; done) | (congr 1; omega), by omega, by omega, HB2, HK2⟩
                case measure => simp [intOf]; omega
              · have hmz : ¬ (a : Int) + (bs : Int) < (N : Int) := by omega
                have HB2 : Hid (Blocks (ltOf cf) (2 * bs) 0 N N dj) := Lib.hid (by
                  obtain ⟨q, hq, hb1, hb2⟩ := HB.out
                  have ho : SortedIn (ltOf cf) (q * (2 * bs)) N dj := blocks_one_last (by rw [hq] at hb2; exact hb2) (by omega)
                  rw [hq] at hb1
                  exact blocks_last hb1 (by omega) (Sort.permIn_refl _ _ _) ho)
                clear HB
                go_wp2_with fail
                go_roundw
                case rel => exact ⟨2 * bs, dj, by first | (congr 1; done) | (congr 1; omega), by omega, by omega, HB2, HK⟩
                case measure => simp [intOf]; omega
        · have hltz : ¬ (bs : Int) < (N : Int) := by omega
          have HF : Hid (SortedIn (ltOf cf) 0 N dk) := Lib.hid (blocks_all HB.out (by omega))
          clear HB
          go_wp2_with fail
          go_end0
          exact ⟨rfl, dk, HK.out.2.1, HF.out, HK.out.2.2.1, HK.out.2.2.2⟩

set_option maxHeartbeats 400000 in
theorem sort_stable_any (g : Nat) (cf : Gp → Gp → Int) (hc : Cmps g cf) (eg : ∀ args w, (callFunc g args).run Try.prog w = .ok (.enter g args) w) (hO : SWO (ltOf cf)) (Rel : Gp → Gp → Prop) (blk off cap N : Nat) (d : Array Gp) (w : World) (R : Row1 encG w blk off d) (hs : d.size = N) (hN : N ≤ 481) (hst : Stab (ltOf cf) Rel d) :
    Calls Try.prog 31 #[.slice (some ⟨blk, off, none⟩) N cap, .func (.func g) #[] #[]] w (Merged cf Rel w blk off 0 N d) := by
  have c := stable_any g cf hc eg hO Rel blk off cap N d w R hs hN hst
  clear hc hO hst R hs
  go_enter Try.func31, Try.ntmps31
  go_wp2_with fail
  refine c.mono ?_
  rintro e w2 ⟨rfl, D, hp, ho, ht, hS⟩
  have HE := Lib.hid (And.intro hp (And.intro ho (And.intro ht hS)))
  clear c hp ho ht hS
  go_wp2_with fail
  go_end0
  exact ⟨rfl, D, HE.out⟩

end Go.Proofs.Ytfhfjnfejcggcaa
