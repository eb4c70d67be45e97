/-
  Proved here: what the library's merge of gaps does (slices.symMergeCmpFunc), the comparison a plain function of two gaps.
  The conditions stand at each theorem.
-/
import Derived.Test.YtfhfjnfejcggcaaStable
namespace Go.Proofs.Ytfhfjnfejcggcaa
open Go.RowKit
open Go.Sort (swp SWO PermIn SortedIn size_swp insertionSort)

/-- What a merge answers: all between a and b is sorted, equals keep their order, and what lies elsewhere is as it was. -/
def Merged (cf : Gp → Gp → Int) (Rel : Gp → Gp → Prop) (w0 : World) (blk off a b : Nat) (d : Array Gp) (e : Ending) (w' : World) : Prop :=
  e = .returned (.tuple #[]) ∧ ∃ D, PermIn a b d D ∧ SortedIn (ltOf cf) a b D ∧ Stab (ltOf cf) Rel D ∧ SW encG w0 blk off D w'

set_option maxRecDepth 100000 in
set_option maxHeartbeats 4000000 in
theorem sym_left (g : Nat) (cf : Gp → Gp → Int) (hc : Cmps g cf) (eg : ∀ args w, (callFunc g args).run Try.prog w = .ok (.enter g args) w) (hO : SWO (ltOf cf)) (Rel : Gp → Gp → Prop) (blk off cap N a m b : Nat) (d0 d : Array Gp) (w0 w : World) (R : Row1 encG w0 blk off d0) (hs0 : d0.size = N) (hs : d.size = N) (S : SW encG w0 blk off d w)
    (ham : m = a + 1) (hmb : m < b) (hb : b ≤ N) (hN : N ≤ 481) (h2 : SortedIn (ltOf cf) m b d) (hst : Stab (ltOf cf) Rel d) :
    Calls Try.prog 59 #[.slice (some ⟨blk, off, none⟩) N cap, .int .i64 a, .int .i64 m, .int .i64 b, .func (.func g) #[] #[]] w (Merged cf Rel w0 blk off a b d) := by
  have hcl0 := R.hO.cells
  simp only [Value.cells] at hcl0
  have hst0 := R.hO.store Try.prog
  have S0 : Hid (SW encG w0 blk off d w) := S
  have HC := Lib.hid hc
  have HO := Lib.hid hO
  have HFIN : Hid (∀ (i : Nat) (D : Array Gp), a + 1 ≤ i → i ≤ b → (i = m ∨ ltOf cf d[i - 1]! d[a]! = true) → (i = b ∨ ltOf cf d[i]! d[a]! = false) → Rot a (a + 1) i d D → SortedIn (ltOf cf) a b D ∧ Stab (ltOf cf) Rel D) :=
    Lib.hid (fun i D i1 i2 h3 h4 hr => ins_left hO i1 i2 (by omega) (by rw [← ham]; exact h2) hst (by rw [ham] at h3; exact h3) h4 hr)
  have ht : ((m : Int) - (a : Int) == 1) = true := by simp; omega
  have HM := Lib.hid ham
  have hma : a + 1 ≤ m ∧ m ≤ a + 1 := by omega
  obtain ⟨hma1, hma2⟩ := hma
  clear S hc h2 hst ham hO
  go_enter Try.func59, Try.ntmps59
  go_wp2_with fail
  clear ht
  go_loopw [10, 11] (fun iv jv wr => ∃ i j : Nat, iv = .int .i64 i ∧ jv = .int .i64 j ∧ m ≤ i ∧ i ≤ j ∧ j ≤ b ∧ Hid (i = m ∨ ltOf cf d[i - 1]! d[a]! = true) ∧ Hid (j = b ∨ ltOf cf d[j]! d[a]! = false) ∧ Hid (SW encG w0 blk off d wr)) (fun iv jv _ => (intOf jv).toNat - (intOf iv).toNat)
  case atStart => exact ⟨m, b, rfl, rfl, Nat.le_refl _, by omega, Nat.le_refl _, Lib.hid (Or.inl rfl), Lib.hid (Or.inl rfl), S0⟩
  case round =>
    clear S0
    obtain ⟨i, j, rfl, rfl, i1, ij, j1, HI, HJ, S1⟩ := hrel
    by_cases hlt : i < j
    · have hltz : (i : Int) < (j : Int) := by omega
      obtain ⟨h, hh⟩ : ∃ h : Nat, ((i : Int) + (j : Int)) / 2 = (h : Int) := ⟨(i + j) / 2, by omega⟩
      have h1 : i ≤ h ∧ h < j := by omega
      obtain ⟨h1, h2⟩ := h1
      go_wp2_with fail
      clear hh
      cases hlv : ltOf cf d[h]! d[a]! with
      | true =>
        obtain ⟨x, hx⟩ : ∃ x, x = d[h]! := ⟨_, rfl⟩
        obtain ⟨y, hy⟩ : ∃ x, x = d[a]! := ⟨_, rfl⟩
        have c1 := S1.out.c1 R (by omega) (h) (by omega)
        have c2 := S1.out.c1 R (by omega) (a) (by omega)
        rw [← hx] at c1
        rw [← hy] at c2
        have cc : ∀ q, Calls Try.prog g #[encG x, encG y] (wr.drewN q) fun e w' => e = .returned (.int .i64 (cf x y)) ∧ w' = wr.drewN q := fun q => (HC.out x y _).mono (by rintro e w' ⟨rfl, rfl⟩; exact ⟨rfl, rfl⟩)
        have hv : cf x y < 0 := by rw [hx, hy]; exact of_decide_eq_true hlv
        have hd : decide (cf x y < 0) = true := decide_eq_true hv
        have HLV := Lib.hid hlv
        clear hx hy hlv
        go_quiet (first | (go_at_fn g; refine Calls.quiet_of_same (cc _)))
        have S2 : Hid (SW encG w0 blk off d (wr.drewN nq)) := Lib.hid (S1.out.drewN nq)
        clear c1 c2 cc S1
        generalize wr.drewN nq = w2 at S2 ⊢
        clear nq
        go_wp2_with fail
        go_roundw
        case rel => exact ⟨h + 1, j, by go_num, rfl, by omega, by omega, j1, Lib.hid (Or.inr (by rw [show h + 1 - 1 = h by omega]; exact HLV.out)), HJ, S2⟩
        case measure => simp [intOf]; omega
      | false =>
        obtain ⟨x, hx⟩ : ∃ x, x = d[h]! := ⟨_, rfl⟩
        obtain ⟨y, hy⟩ : ∃ x, x = d[a]! := ⟨_, rfl⟩
        have c1 := S1.out.c1 R (by omega) (h) (by omega)
        have c2 := S1.out.c1 R (by omega) (a) (by omega)
        rw [← hx] at c1
        rw [← hy] at c2
        have cc : ∀ q, Calls Try.prog g #[encG x, encG y] (wr.drewN q) fun e w' => e = .returned (.int .i64 (cf x y)) ∧ w' = wr.drewN q := fun q => (HC.out x y _).mono (by rintro e w' ⟨rfl, rfl⟩; exact ⟨rfl, rfl⟩)
        have hv : ¬ cf x y < 0 := by rw [hx, hy]; exact of_decide_eq_false hlv
        have hd : decide (cf x y < 0) = false := decide_eq_false hv
        have HLV := Lib.hid hlv
        clear hx hy hlv
        go_quiet (first | (go_at_fn g; refine Calls.quiet_of_same (cc _)))
        have S2 : Hid (SW encG w0 blk off d (wr.drewN nq)) := Lib.hid (S1.out.drewN nq)
        clear c1 c2 cc S1
        generalize wr.drewN nq = w2 at S2 ⊢
        clear nq
        go_wp2_with fail
        go_roundw
        case rel => exact ⟨i, h, rfl, rfl, i1, h1, by omega, HI, Lib.hid (Or.inr HLV.out), S2⟩
        case measure => simp [intOf]; omega
    · have hij : i = j := by omega
      subst hij
      have HF2 : Hid (∀ D, Rot a (a + 1) i d D → SortedIn (ltOf cf) a b D ∧ Stab (ltOf cf) Rel D) := Lib.hid (fun D hr => HFIN.out i D (by omega) j1 HI.out HJ.out hr)
      have HK0 : Hid (Rot a (a + 1) (a + 1) d d ∧ PermIn a b d d) := Lib.hid ⟨(rot_none d a (a + 1) (by omega)).2, Sort.permIn_refl _ _ _⟩
      clear HI HJ HFIN hlt ij
      go_wp2_with fail
      go_loopw [13] (fun kv wr => ∃ (k : Nat) (dk : Array Gp), kv = .int .i64 k ∧ a ≤ k ∧ k + 1 ≤ i ∧ Hid (Rot a (a + 1) (k + 1) d dk ∧ PermIn a b d dk) ∧ Hid (SW encG w0 blk off dk wr)) (fun kv _ => i - (intOf kv).toNat)
      case atStart => exact ⟨a, d, rfl, Nat.le_refl _, by omega, HK0, S1⟩
      case round =>
        clear S1 HK0
        obtain ⟨k, dk, rfl, k1, k2, HK, S1⟩ := hrel
        have hz := HK.out.1.1
        by_cases hlt : k + 1 < i
        · have hltz : (k : Int) < (i : Int) - 1 := by omega
          have HK2 : Hid (Rot a (a + 1) (k + 2) d (swp dk k (k + 1)) ∧ PermIn a b d (swp dk k (k + 1))) := Lib.hid ⟨rot_up k1 (by omega) HK.out.1, Sort.permIn_trans _ _ _ _ _ HK.out.2 (Sort.swp_permIn _ _ _ _ _ k1 (by omega) (by omega) (by omega) (by omega))⟩
          go_wp2_with fail
          obtain ⟨p, hp⟩ : ∃ p, p = k := ⟨_, rfl⟩
          obtain ⟨q, hq⟩ : ∃ q, q = k + 1 := ⟨_, rfl⟩
          have ea : ((k : Int)).toNat = p := by omega
          have pa : (0 : Int) ≤ (k : Int) := by omega
          have ba : (k : Int) < (N : Int) := by omega
          have ra : IntKind.i64.wrap ((k : Int)) = (k : Int) := by rw [IntKind.wrap_i64]; omega
          have ec : ((k : Int) + 1).toNat = q := by omega
          have pc : (0 : Int) ≤ (k : Int) + 1 := by omega
          have bc : (k : Int) + 1 < (N : Int) := by omega
          have rc : IntKind.i64.wrap ((k : Int) + 1) = (k : Int) + 1 := by rw [IntKind.wrap_i64]; omega
          obtain ⟨x, hx⟩ : ∃ x, x = dk[p]! := ⟨_, rfl⟩
          obtain ⟨y, hy⟩ : ∃ x, x = dk[q]! := ⟨_, rfl⟩
          have S2 : Hid (SW encG w0 blk off (swp dk (k) (k + 1)) ((wr.setCell ⟨blk, off + p, none⟩ (encG y)).setCell ⟨blk, off + q, none⟩ (encG x)).drew) := by
            rw [hx, hy, hp, hq]
            exact S1.out.swapped R (k) (k + 1) (by omega) (by omega)
          have c1 := S1.out.c1 R (by omega) p (by omega)
          have c2 := S1.out.c1 R (by omega) q (by omega)
          have f1 := S1.out.f1 R (by omega) p (by omega)
          have f2 := S1.out.f1 R (by omega) q (by omega)
          obtain ⟨u, c3⟩ := S1.out.c2 R (by omega) p q (by omega) (by omega) (encG y)
          rw [← hx] at c1
          rw [← hy] at c2
          clear S1 hx hy hp hq
          go_big_region
          clear c1 c2 c3 f1 f2
          generalize ((wr.setCell ⟨blk, off + p, none⟩ (encG y)).setCell ⟨blk, off + q, none⟩ (encG x)).drew = w2 at S2 ⊢
          clear ea ec pa ba ra pc bc rc
          go_wp2_with fail
          go_roundw
          case rel => exact ⟨k + 1, _, by go_num, by omega, by omega, HK2, S2⟩
          case measure => simp [intOf]; omega
        · have hki : k + 1 = i := by omega
          have hltz : ¬ (k : Int) < (i : Int) - 1 := by omega
          have HEND : Hid (PermIn a b d dk ∧ SortedIn (ltOf cf) a b dk ∧ Stab (ltOf cf) Rel dk) := Lib.hid (by
            have h := HF2.out dk (by have := HK.out.1; rwa [hki] at this)
            exact ⟨HK.out.2, h.1, h.2⟩)
          clear hki
          go_wp2_with fail
          go_end0
          exact ⟨rfl, dk, HEND.out.1, HEND.out.2.1, HEND.out.2.2, S1.out⟩

set_option maxRecDepth 100000 in
set_option maxHeartbeats 4000000 in
theorem sym_right (g : Nat) (cf : Gp → Gp → Int) (hc : Cmps g cf) (eg : ∀ args w, (callFunc g args).run Try.prog w = .ok (.enter g args) w) (hO : SWO (ltOf cf)) (Rel : Gp → Gp → Prop) (blk off cap N a m b : Nat) (d0 d : Array Gp) (w0 w : World) (R : Row1 encG w0 blk off d0) (hs0 : d0.size = N) (hs : d.size = N) (S : SW encG w0 blk off d w)
    (ham : a + 1 < m) (hmb : b = m + 1) (hb : b ≤ N) (hN : N ≤ 481) (h1 : SortedIn (ltOf cf) a m d) (hst : Stab (ltOf cf) Rel d) :
    Calls Try.prog 59 #[.slice (some ⟨blk, off, none⟩) N cap, .int .i64 a, .int .i64 m, .int .i64 b, .func (.func g) #[] #[]] w (Merged cf Rel w0 blk off a b d) := by
  have hcl0 := R.hO.cells
  simp only [Value.cells] at hcl0
  have hst0 := R.hO.store Try.prog
  have S0 : Hid (SW encG w0 blk off d w) := S
  have HC := Lib.hid hc
  have HO := Lib.hid hO
  have HFIN : Hid (∀ (i : Nat) (D : Array Gp), a ≤ i → i ≤ m → (i = a ∨ ltOf cf d[m]! d[i - 1]! = false) → (i = m ∨ ltOf cf d[m]! d[i]! = true) → Rot i m (m + 1) d D → SortedIn (ltOf cf) a b D ∧ Stab (ltOf cf) Rel D) :=
    Lib.hid (fun i D i1 i2 h3 h4 hr => by rw [hmb]; exact ins_right hO i1 i2 (by omega) h1 hst h3 h4 hr)
  have ht : ((m : Int) - (a : Int) == 1) = false := by simp; omega
  have ht2 : ((b : Int) - (m : Int) == 1) = true := by simp; omega
  have hma : m + 1 ≤ b ∧ b ≤ m + 1 := by omega
  obtain ⟨hma1, hma2⟩ := hma
  clear S hc h1 hst hmb hO
  go_enter Try.func59, Try.ntmps59
  go_wp2_with fail
  clear ht ht2
  go_loopw [14, 15] (fun iv jv wr => ∃ i j : Nat, iv = .int .i64 i ∧ jv = .int .i64 j ∧ a ≤ i ∧ i ≤ j ∧ j ≤ m ∧ Hid (i = a ∨ ltOf cf d[m]! d[i - 1]! = false) ∧ Hid (j = m ∨ ltOf cf d[m]! d[j]! = true) ∧ Hid (SW encG w0 blk off d wr)) (fun iv jv _ => (intOf jv).toNat - (intOf iv).toNat)
  case atStart => exact ⟨a, m, rfl, rfl, Nat.le_refl _, by omega, Nat.le_refl _, Lib.hid (Or.inl rfl), Lib.hid (Or.inl rfl), S0⟩
  case round =>
    clear S0
    obtain ⟨i, j, rfl, rfl, i1, ij, j1, HI, HJ, S1⟩ := hrel
    by_cases hlt : i < j
    · have hltz : (i : Int) < (j : Int) := by omega
      obtain ⟨h, hh⟩ : ∃ h : Nat, ((i : Int) + (j : Int)) / 2 = (h : Int) := ⟨(i + j) / 2, by omega⟩
      have h1 : i ≤ h ∧ h < j := by omega
      obtain ⟨h1, h2⟩ := h1
      go_wp2_with fail
      clear hh
      cases hlv : ltOf cf d[m]! d[h]! with
      | false =>
        obtain ⟨x, hx⟩ : ∃ x, x = d[m]! := ⟨_, rfl⟩
        obtain ⟨y, hy⟩ : ∃ x, x = d[h]! := ⟨_, rfl⟩
        have c1 := S1.out.c1 R (by omega) (m) (by omega)
        have c2 := S1.out.c1 R (by omega) (h) (by omega)
        rw [← hx] at c1
        rw [← hy] at c2
        have cc : ∀ q, Calls Try.prog g #[encG x, encG y] (wr.drewN q) fun e w' => e = .returned (.int .i64 (cf x y)) ∧ w' = wr.drewN q := fun q => (HC.out x y _).mono (by rintro e w' ⟨rfl, rfl⟩; exact ⟨rfl, rfl⟩)
        have hv : ¬ cf x y < 0 := by rw [hx, hy]; exact of_decide_eq_false hlv
        have hd : decide (cf x y < 0) = false := decide_eq_false hv
        have HLV := Lib.hid hlv
        clear hx hy hlv
        go_quiet (first | (go_at_fn g; refine Calls.quiet_of_same (cc _)))
        have S2 : Hid (SW encG w0 blk off d (wr.drewN nq)) := Lib.hid (S1.out.drewN nq)
        clear c1 c2 cc S1
        generalize wr.drewN nq = w2 at S2 ⊢
        clear nq
        go_wp2_with fail
        go_roundw
        case rel => exact ⟨h + 1, j, by go_num, rfl, by omega, by omega, j1, Lib.hid (Or.inr (by rw [show h + 1 - 1 = h by omega]; exact HLV.out)), HJ, S2⟩
        case measure => simp [intOf]; omega
      | true =>
        obtain ⟨x, hx⟩ : ∃ x, x = d[m]! := ⟨_, rfl⟩
        obtain ⟨y, hy⟩ : ∃ x, x = d[h]! := ⟨_, rfl⟩
        have c1 := S1.out.c1 R (by omega) (m) (by omega)
        have c2 := S1.out.c1 R (by omega) (h) (by omega)
        rw [← hx] at c1
        rw [← hy] at c2
        have cc : ∀ q, Calls Try.prog g #[encG x, encG y] (wr.drewN q) fun e w' => e = .returned (.int .i64 (cf x y)) ∧ w' = wr.drewN q := fun q => (HC.out x y _).mono (by rintro e w' ⟨rfl, rfl⟩; exact ⟨rfl, rfl⟩)
        have hv : cf x y < 0 := by rw [hx, hy]; exact of_decide_eq_true hlv
        have hd : decide (cf x y < 0) = true := decide_eq_true hv
        have HLV := Lib.hid hlv
        clear hx hy hlv
        go_quiet (first | (go_at_fn g; refine Calls.quiet_of_same (cc _)))
        have S2 : Hid (SW encG w0 blk off d (wr.drewN nq)) := Lib.hid (S1.out.drewN nq)
        clear c1 c2 cc S1
        generalize wr.drewN nq = w2 at S2 ⊢
        clear nq
        go_wp2_with fail
        go_roundw
        case rel => exact ⟨i, h, rfl, rfl, i1, h1, by omega, HI, Lib.hid (Or.inr HLV.out), S2⟩
        case measure => simp [intOf]; omega
    · have hij : i = j := by omega
      subst hij
      have HF2 : Hid (∀ D, Rot i m (m + 1) d D → SortedIn (ltOf cf) a b D ∧ Stab (ltOf cf) Rel D) := Lib.hid (fun D hr => HFIN.out i D i1 j1 HI.out HJ.out hr)
      have HK0 : Hid (Rot m m (m + 1) d d ∧ PermIn a b d d) := Lib.hid ⟨(rot_none d m (m + 1) (by omega)).1, Sort.permIn_refl _ _ _⟩
      clear HI HJ HFIN hlt ij
      go_wp2_with fail
      go_loopw [17] (fun kv wr => ∃ (k : Nat) (dk : Array Gp), kv = .int .i64 k ∧ i ≤ k ∧ k ≤ m ∧ Hid (Rot k m (m + 1) d dk ∧ PermIn a b d dk) ∧ Hid (SW encG w0 blk off dk wr)) (fun kv _ => (intOf kv).toNat)
      case atStart => exact ⟨m, d, rfl, by omega, Nat.le_refl _, HK0, S1⟩
      case round =>
        clear S1 HK0
        obtain ⟨k, dk, rfl, k1, k2, HK, S1⟩ := hrel
        have hz := HK.out.1.1
        by_cases hlt : i < k
        · obtain ⟨kp, rfl⟩ : ∃ kp, k = kp + 1 := ⟨k - 1, by omega⟩
          have hltz : (i : Int) < (kp : Int) + 1 := by omega
          have HK2 : Hid (Rot kp m (m + 1) d (swp dk (kp + 1) kp) ∧ PermIn a b d (swp dk (kp + 1) kp)) := Lib.hid ⟨rot_down k2 (by omega) HK.out.1, Sort.permIn_trans _ _ _ _ _ HK.out.2 (Sort.swp_permIn _ _ _ _ _ (by omega) (by omega) (by omega) (by omega) (by omega))⟩
          go_wp2_with fail
          obtain ⟨p, hp⟩ : ∃ p, p = kp + 1 := ⟨_, rfl⟩
          obtain ⟨q, hq⟩ : ∃ q, q = kp := ⟨_, rfl⟩
          have ea : ((kp : Int) + 1).toNat = p := by omega
          have pa : (0 : Int) ≤ (kp : Int) + 1 := by omega
          have ba : (kp : Int) + 1 < (N : Int) := by omega
          have ra : IntKind.i64.wrap ((kp : Int) + 1) = (kp : Int) + 1 := by rw [IntKind.wrap_i64]; omega
          have ec : ((kp : Int)).toNat = q := by omega
          have pc : (0 : Int) ≤ (kp : Int) := by omega
          have bc : (kp : Int) < (N : Int) := by omega
          have rc : IntKind.i64.wrap ((kp : Int)) = (kp : Int) := by rw [IntKind.wrap_i64]; omega
          obtain ⟨x, hx⟩ : ∃ x, x = dk[p]! := ⟨_, rfl⟩
          obtain ⟨y, hy⟩ : ∃ x, x = dk[q]! := ⟨_, rfl⟩
          have S2 : Hid (SW encG w0 blk off (swp dk (kp + 1) (kp)) ((wr.setCell ⟨blk, off + p, none⟩ (encG y)).setCell ⟨blk, off + q, none⟩ (encG x)).drew) := by
            rw [hx, hy, hp, hq]
            exact S1.out.swapped R (kp + 1) (kp) (by omega) (by omega)
          have c1 := S1.out.c1 R (by omega) p (by omega)
          have c2 := S1.out.c1 R (by omega) q (by omega)
          have f1 := S1.out.f1 R (by omega) p (by omega)
          have f2 := S1.out.f1 R (by omega) q (by omega)
          obtain ⟨u, c3⟩ := S1.out.c2 R (by omega) p q (by omega) (by omega) (encG y)
          rw [← hx] at c1
          rw [← hy] at c2
          clear S1 hx hy hp hq
          go_big_region
          clear c1 c2 c3 f1 f2
          generalize ((wr.setCell ⟨blk, off + p, none⟩ (encG y)).setCell ⟨blk, off + q, none⟩ (encG x)).drew = w2 at S2 ⊢
          clear ea ec pa ba ra pc bc rc
          go_wp2_with fail
          go_roundw
          case rel => exact ⟨kp, _, by go_num, by omega, by omega, HK2, S2⟩
          case measure => simp [intOf]
        · have hki : k = i := by omega
          have hltz : ¬ (i : Int) < (k : Int) := by omega
          have HEND : Hid (PermIn a b d dk ∧ SortedIn (ltOf cf) a b dk ∧ Stab (ltOf cf) Rel dk) := Lib.hid (by
            have h := HF2.out dk (by have := HK.out.1; rwa [hki] at this)
            exact ⟨HK.out.2, h.1, h.2⟩)
          clear hki
          go_wp2_with fail
          go_end0
          exact ⟨rfl, dk, HEND.out.1, HEND.out.2.1, HEND.out.2.2, S1.out⟩

end Go.Proofs.Ytfhfjnfejcggcaa
