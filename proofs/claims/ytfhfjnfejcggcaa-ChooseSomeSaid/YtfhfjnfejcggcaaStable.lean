/-
  Proved here: what the library's stable sort of gaps does (slices.SortStableFunc and what it leans on), the comparison a plain function of two gaps.
  The conditions stand at each theorem.
-/
import Derived.Test.YtfhfjnfejcggcaaPickOne
import Derived.Test.YtfhfjnfejcggcaaRot
import Derived.Shelf.SlSortCmp.Insertion1
import Derived.BigRegion
namespace Go.Proofs.Ytfhfjnfejcggcaa
open Go.RowKit
open Go.Sort (swp SWO PermIn SortedIn size_swp insertionSort)

set_option maxRecDepth 100000 in
set_option maxHeartbeats 4000000 in
theorem swapR_walk (g blk off cap N a b n : Nat) (d0 d : Array Gp) (w0 w : World) (R : Row1 encG w0 blk off d0) (hs0 : d0.size = N) (hs : d.size = N) (S : SW encG w0 blk off d w) (hab : a + n ≤ b) (hb : b + n ≤ N) (hN : N ≤ 481) :
    Calls Try.prog 78 #[.slice (some ⟨blk, off, none⟩) N cap, .int .i64 a, .int .i64 b, .int .i64 n, .func (.func g) #[] #[]] w fun e w' => e = .returned (.tuple #[]) ∧ SW encG w0 blk off (swapR d a b n) w' := by
  have hcl0 := R.hO.cells
  simp only [Value.cells] at hcl0
  have hst := R.hO.store Try.prog
  have S0 : Hid (SW encG w0 blk off d w) := S
  have HS := Lib.hid hs
  clear S hs
  go_enter Try.func78, Try.ntmps78
  go_wp2_with fail
  go_loopw [10] (fun iv wr => ∃ i : Nat, iv = .int .i64 i ∧ i ≤ n ∧ Hid (SW encG w0 blk off (swapR d a b i) wr)) (fun iv _ => n - (intOf iv).toNat)
  case atStart => exact ⟨0, rfl, Nat.zero_le _, S0⟩
  case round =>
    clear S0
    obtain ⟨i, rfl, hin, S1⟩ := hrel
    have hsz : (swapR d a b i).size = N := by rw [size_swapR, HS.out]
    by_cases hlt : i < n
    · have hltz : (i : Int) < (n : Int) := by omega
      go_wp2_with fail
      obtain ⟨p, hp⟩ : ∃ q, q = a + i := ⟨_, rfl⟩
      obtain ⟨q, hq⟩ : ∃ q, q = b + i := ⟨_, rfl⟩
      have ea : ((a : Int) + (i : Int)).toNat = p := by omega
      have pa : (0 : Int) ≤ (a : Int) + (i : Int) := by omega
      have ba : (a : Int) + (i : Int) < (N : Int) := by omega
      have ra : IntKind.i64.wrap ((a : Int) + (i : Int)) = (a : Int) + (i : Int) := by rw [IntKind.wrap_i64]; omega
      have ec : ((b : Int) + (i : Int)).toNat = q := by omega
      have pc : (0 : Int) ≤ (b : Int) + (i : Int) := by omega
      have bc : (b : Int) + (i : Int) < (N : Int) := by omega
      have rc : IntKind.i64.wrap ((b : Int) + (i : Int)) = (b : Int) + (i : Int) := by rw [IntKind.wrap_i64]; omega
      obtain ⟨x, hx⟩ : ∃ x, x = (swapR d a b i)[p]! := ⟨_, rfl⟩
      obtain ⟨y, hy⟩ : ∃ x, x = (swapR d a b i)[q]! := ⟨_, rfl⟩
      have S2 : Hid (SW encG w0 blk off (swapR d a b (i + 1)) ((wr.setCell ⟨blk, off + p, none⟩ (encG y)).setCell ⟨blk, off + q, none⟩ (encG x)).drew) := by
        rw [hx, hy, hp, hq]
        exact S1.out.swapped R (a + i) (b + i) (by omega) (by omega)
      have c1 := S1.out.c1 R (by omega) p (by omega)
      have c2 := S1.out.c1 R (by omega) q (by omega)
      have f1 := S1.out.f1 R (by omega) p (by omega)
      have f2 := S1.out.f1 R (by omega) q (by omega)
      obtain ⟨u, c3⟩ := S1.out.c2 R (by omega) p q (by omega) (by omega) (encG y)
      rw [← hx] at c1
      rw [← hy] at c2
      clear S1 hx hy hp hq
      go_big_region
      clear c1 c2 c3 f1 f2
      generalize ((wr.setCell ⟨blk, off + p, none⟩ (encG y)).setCell ⟨blk, off + q, none⟩ (encG x)).drew = w2 at S2 ⊢
      clear ea ec
      go_wp2_with fail
      go_roundw
      case rel => exact ⟨i + 1, by go_num, by omega, S2⟩
      case measure => simp [intOf]; omega
    · have hin' : i = n := by omega
      subst hin'
      go_wp2_with fail
      go_end0
      exact ⟨rfl, S1.out⟩

/-- The rows that a rotation, still to be finished, leaves. -/
def Turning (a m b N i j : Nat) (d dk : Array Gp) : Prop := dk.size = N ∧ PermIn a b d dk ∧ ∀ D, Rot (m - i) m (m + j) dk D → Rot a m b d D

set_option maxRecDepth 100000 in
set_option maxHeartbeats 4000000 in
theorem rotate_walk (g blk off cap N a m b : Nat) (d0 d : Array Gp) (w0 w : World) (R : Row1 encG w0 blk off d0) (hs0 : d0.size = N) (hs : d.size = N) (S : SW encG w0 blk off d w) (ham : a < m) (hmb : m < b) (hb : b ≤ N) (hN : N ≤ 481) :
    Calls Try.prog 71 #[.slice (some ⟨blk, off, none⟩) N cap, .int .i64 a, .int .i64 m, .int .i64 b, .func (.func g) #[] #[]] w fun e w' => e = .returned (.tuple #[]) ∧ ∃ D, Rot a m b d D ∧ PermIn a b d D ∧ SW encG w0 blk off D w' := by
  have S0 : Hid (SW encG w0 blk off d w) := S
  have HC : Hid (∀ (x y n : Nat) (dk : Array Gp) (wr : World), dk.size = N → SW encG w0 blk off dk wr → x + n ≤ y → y + n ≤ N → Calls Try.prog 78 #[.slice (some ⟨blk, off, none⟩) N cap, .int .i64 x, .int .i64 y, .int .i64 n, .func (.func g) #[] #[]] wr fun e w' => e = .returned (.tuple #[]) ∧ SW encG w0 blk off (swapR dk x y n) w') :=
    Lib.hid (fun x y n dk wr h1 h2 h3 h4 => swapR_walk g blk off cap N x y n d0 dk w0 wr R hs0 h1 h2 h3 h4 hN)
  have e1 : (m : Int) - (a : Int) = ((m - a : Nat) : Int) := by omega
  have e2 : (b : Int) - (m : Int) = ((b - m : Nat) : Int) := by omega
  have HT0 : Hid (Turning a m b N (m - a) (b - m) d d) := Lib.hid ⟨hs, Sort.permIn_refl _ _ _, fun D h => by rwa [show m - (m - a) = a by omega, show m + (b - m) = b by omega] at h⟩
  have HE1 := Lib.hid e1
  have HE2 := Lib.hid e2
  clear S R hs0 hs e1 e2
  go_enter Try.func71, Try.ntmps71
  go_wp2_with fail
  go_loopw [10, 11] (fun iv jv wr => ∃ (i j : Nat) (dk : Array Gp), iv = .int .i64 i ∧ jv = .int .i64 j ∧ 0 < i ∧ 0 < j ∧ a + i ≤ m ∧ m + j ≤ b ∧ Hid (Turning a m b N i j d dk) ∧ Hid (SW encG w0 blk off dk wr)) (fun iv jv _ => (intOf iv).toNat + (intOf jv).toNat)
  case atStart => exact ⟨m - a, b - m, d, by rw [HE1.out], by rw [HE2.out], by omega, by omega, by omega, by omega, HT0, S0⟩
  case round =>
    clear S0 HT0
    obtain ⟨i, j, dk, rfl, rfl, i0, j0, i1, j1, HT, S1⟩ := hrel
    have hz := HT.out.1
    have e3 : ((m - i : Nat) : Int) = (m : Int) - (i : Int) := by omega
    by_cases heq : i = j
    · subst heq
      have c := HC.out (m - i) m i dk wr hz S1.out (by omega) (by omega)
      rw [e3] at c
      have HF : Hid (Rot a m b d (swapR dk (m - i) m i) ∧ PermIn a b d (swapR dk (m - i) m i)) := Lib.hid ⟨HT.out.2.2 _ (rot_even (by omega) (by omega)), Sort.permIn_trans _ _ _ _ _ HT.out.2.1 (swapR_perm dk a b (m - i) m i (by omega) (by omega) (by omega) (by omega) (by omega))⟩
      clear e3 hz HT
      go_wp2_with fail
      refine c.mono ?_
      rintro e w2 ⟨rfl, hS2⟩
      have S2 := Lib.hid hS2
      clear hS2 c
      go_wp2_with fail
      go_end0
      exact ⟨rfl, _, HF.out.1, HF.out.2, S2.out⟩
    · have hne : ((i : Int) != (j : Int)) = true := by simp; omega
      by_cases hlt : j < i
      · have c := HC.out (m - i) m j dk wr hz S1.out (by omega) (by omega)
        rw [e3] at c
        have HT2 : Hid (Turning a m b N (i - j) j d (swapR dk (m - i) m j)) := Lib.hid ⟨by rw [size_swapR]; exact hz, Sort.permIn_trans _ _ _ _ _ HT.out.2.1 (swapR_perm dk a b (m - i) m j (by omega) (by omega) (by omega) (by omega) (by omega)), fun D h => HT.out.2.2 D (rot_big hlt (by omega) (by omega) (by rwa [show m - i + j = m - (i - j) by omega]))⟩
        have hltz : (j : Int) < (i : Int) := by omega
        clear e3 hz HT heq
        go_wp2_with fail
        refine c.mono ?_
        rintro e w2 ⟨rfl, hS2⟩
        have S2 := Lib.hid hS2
        clear hS2 c
        go_wp2_with fail
        go_roundw
        case rel => exact ⟨i - j, j, _, by go_num, rfl, by omega, j0, by omega, j1, HT2, S2⟩
        case measure => simp [intOf]; omega
      · have e4 : ((m + j - i : Nat) : Int) = (m : Int) + (j : Int) - (i : Int) := by omega
        have c := HC.out (m - i) (m + j - i) i dk wr hz S1.out (by omega) (by omega)
        rw [e3, e4] at c
        have HT2 : Hid (Turning a m b N i (j - i) d (swapR dk (m - i) (m + j - i) i)) := Lib.hid ⟨by rw [size_swapR]; exact hz, Sort.permIn_trans _ _ _ _ _ HT.out.2.1 (swapR_perm dk a b (m - i) (m + j - i) i (by omega) (by omega) (by omega) (by omega) (by omega)), fun D h => HT.out.2.2 D (rot_small (by omega) (by omega) (by omega) (by rw [show m + (j - i) = m + j - i by omega] at h; exact h))⟩
        have hltz : ¬ (j : Int) < (i : Int) := by omega
        clear e3 e4 hz HT
        go_wp2_with fail
        refine c.mono ?_
        rintro e w2 ⟨rfl, hS2⟩
        have S2 := Lib.hid hS2
        clear hS2 c
        go_wp2_with fail
        go_roundw
        case rel => exact ⟨i, j - i, _, rfl, by go_num, i0, by omega, i1, by omega, HT2, S2⟩
        case measure => simp [intOf]; omega

end Go.Proofs.Ytfhfjnfejcggcaa
