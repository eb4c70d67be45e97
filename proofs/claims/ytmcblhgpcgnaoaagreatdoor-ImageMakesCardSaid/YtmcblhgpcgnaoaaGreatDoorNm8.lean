/-
  Proved here: what the library's merge of gaps does (slices.symMergeCmpFunc), the comparison a plain function of two gaps. The conditions stand at each theorem. Proved here: what the library's merge of gaps does (slices.symMergeCmpFunc) with any two sorted neighbouring parts, the comparison a plain function of two gaps. The conditions stand at each theorem. Proved here: what the library's stable sort of gaps does (slices.SortStableFunc), the comparison a plain function of two gaps: they are sorted, and equals keep their order. The conditions stand at each theorem. Proved here: plain facts on taking the longest gap left, again and again, and on sorting by exchanging neighbours. No conditions but those that each theorem names. Nothing of the program is read here. Proved here: what the landed choose.take answers of gaps and a number: the first of them until there are so many blocks, and how many are lacking. The conditions stand at the theorem. Proved here: what the landed choose.First and choose.Tight answer of any bytes, number and blocks. The conditions stand at each theorem.
-/
import Derived.Test.YtmcblhgpcgnaoaaGreatDoorNm7
import Derived.Deep.Cut
namespace Go.Proofs.YtmcblhgpcgnaoaaGreatDoor
open Go.RowKit
open Go.Sort (swp SWO PermIn SortedIn size_swp insertionSort)

/-- What a merge answers: all between a and b is sorted, equals keep their order, and what lies elsewhere is as it was. -/
def Merged (cf : Gp → Gp → Int) (Rel : Gp → Gp → Prop) (w0 : World) (blk off a b : Nat) (d : Array Gp) (e : Ending) (w' : World) : Prop :=
  e = .returned (.tuple #[]) ∧ ∃ D, PermIn a b d D ∧ SortedIn (ltOf cf) a b D ∧ Stab (ltOf cf) Rel D ∧ SW encG w0 blk off D w'

set_option maxRecDepth 100000 in
set_option maxHeartbeats 4000000 in
theorem sym_left (g : Nat) (cf : Gp → Gp → Int) (hc : Cmps g cf) (eg : ∀ args w, (callFunc g args).run Tryz.prog w = .ok (.enter g args) w) (hO : SWO (ltOf cf)) (Rel : Gp → Gp → Prop) (blk off cap N a m b : Nat) (d0 d : Array Gp) (w0 w : World) (R : Row1 encG w0 blk off d0) (hs0 : d0.size = N) (hs : d.size = N) (S : SW encG w0 blk off d w)
    (ham : m = a + 1) (hmb : m < b) (hb : b ≤ N) (hN : N ≤ 481) (h2 : SortedIn (ltOf cf) m b d) (hst : Stab (ltOf cf) Rel d) :
    Calls Tryz.prog 270 #[.slice (some ⟨blk, off, none⟩) N cap, .int .i64 a, .int .i64 m, .int .i64 b, .func (.func g) #[] #[]] w (Merged cf Rel w0 blk off a b d) := by
  have hcl0 := R.hO.cells
  simp only [Value.cells] at hcl0
  have hst0 := R.hO.store Tryz.prog
  have S0 : Hid (SW encG w0 blk off d w) := S
  have HC := Lib.hid hc
  have HO := Lib.hid hO
  have HFIN : Hid (∀ (i : Nat) (D : Array Gp), a + 1 ≤ i → i ≤ b → (i = m ∨ ltOf cf d[i - 1]! d[a]! = true) → (i = b ∨ ltOf cf d[i]! d[a]! = false) → Rot a (a + 1) i d D → SortedIn (ltOf cf) a b D ∧ Stab (ltOf cf) Rel D) :=
    Lib.hid (fun i D i1 i2 h3 h4 hr => ins_left hO i1 i2 (by omega) (by rw [← ham]; exact h2) hst (by rw [ham] at h3; exact h3) h4 hr)
  have ht : ((m : Int) - (a : Int) == 1) = true := by simp; omega
  have HM := Lib.hid ham
  have hma : a + 1 ≤ m ∧ m ≤ a + 1 := by omega
  obtain ⟨hma1, hma2⟩ := hma
  clear S hc h2 hst ham hO
  go_enter Tryz.func270, Tryz.ntmps270
  go_wp2_with fail
  clear ht
  go_loopw [10, 11] (fun iv jv wr => ∃ i j : Nat, iv = .int .i64 i ∧ jv = .int .i64 j ∧ m ≤ i ∧ i ≤ j ∧ j ≤ b ∧ Hid (i = m ∨ ltOf cf d[i - 1]! d[a]! = true) ∧ Hid (j = b ∨ ltOf cf d[j]! d[a]! = false) ∧ Hid (SW encG w0 blk off d wr)) (fun iv jv _ => (intOf jv).toNat - (intOf iv).toNat)
  case atStart => exact ⟨m, b, rfl, rfl, Nat.le_refl _, by omega, Nat.le_refl _, Lib.hid (Or.inl rfl), Lib.hid (Or.inl rfl), S0⟩
  case round =>
    clear S0
    obtain ⟨i, j, rfl, rfl, i1, ij, j1, HI, HJ, S1⟩ := hrel
    by_cases hlt : i < j
    · have hltz : (i : Int) < (j : Int) := by omega
      obtain ⟨h, hh⟩ : ∃ h : Nat, ((i : Int) + (j : Int)) / 2 = (h : Int) := ⟨(i + j) / 2, by omega⟩
      have h1 : i ≤ h ∧ h < j := by omega
      obtain ⟨h1, h2⟩ := h1
      go_wp2_with fail
      clear hh
      cases hlv : ltOf cf d[h]! d[a]! with
      | true =>
        obtain ⟨x, hx⟩ : ∃ x, x = d[h]! := ⟨_, rfl⟩
        obtain ⟨y, hy⟩ : ∃ x, x = d[a]! := ⟨_, rfl⟩
        have c1 := S1.out.c1 R (by omega) (h) (by omega)
        have c2 := S1.out.c1 R (by omega) (a) (by omega)
        rw [← hx] at c1
        rw [← hy] at c2
        have cc : ∀ q, Calls Tryz.prog g #[encG x, encG y] (wr.drewN q) fun e w' => e = .returned (.int .i64 (cf x y)) ∧ w' = wr.drewN q := fun q => (HC.out x y _).mono (by rintro e w' ⟨rfl, rfl⟩; exact ⟨rfl, rfl⟩)
        have hv : cf x y < 0 := by rw [hx, hy]; exact of_decide_eq_true hlv
        have hd : decide (cf x y < 0) = true := decide_eq_true hv
        have HLV := Lib.hid hlv
        clear hx hy hlv
        go_quiet (first | (go_at_fn g; refine Calls.quiet_of_same (cc _)))
        have S2 : Hid (SW encG w0 blk off d (wr.drewN nq)) := Lib.hid (S1.out.drewN nq)
        clear c1 c2 cc S1
        generalize wr.drewN nq = w2 at S2 ⊢
        clear nq
        go_wp2_with fail
        go_roundw
        case rel => exact ⟨h + 1, j, by go_num, rfl, by omega, by omega, j1, Lib.hid (Or.inr (by rw [show h + 1 - 1 = h by omega]; exact HLV.out)), HJ, S2⟩
        case measure => simp [intOf]; omega
      | false =>
        obtain ⟨x, hx⟩ : ∃ x, x = d[h]! := ⟨_, rfl⟩
        obtain ⟨y, hy⟩ : ∃ x, x = d[a]! := ⟨_, rfl⟩
        have c1 := S1.out.c1 R (by omega) (h) (by omega)
        have c2 := S1.out.c1 R (by omega) (a) (by omega)
        rw [← hx] at c1
        rw [← hy] at c2
        have cc : ∀ q, Calls Tryz.prog g #[encG x, encG y] (wr.drewN q) fun e w' => e = .returned (.int .i64 (cf x y)) ∧ w' = wr.drewN q := fun q => (HC.out x y _).mono (by rintro e w' ⟨rfl, rfl⟩; exact ⟨rfl, rfl⟩)
        have hv : ¬ cf x y < 0 := by rw [hx, hy]; exact of_decide_eq_false hlv
        have hd : decide (cf x y < 0) = false := decide_eq_false hv
        have HLV := Lib.hid hlv
        clear hx hy hlv
        go_quiet (first | (go_at_fn g; refine Calls.quiet_of_same (cc _)))
        have S2 : Hid (SW encG w0 blk off d (wr.drewN nq)) := Lib.hid (S1.out.drewN nq)
        clear c1 c2 cc S1
        generalize wr.drewN nq = w2 at S2 ⊢
        clear nq
        go_wp2_with fail
        go_roundw
        case rel => exact ⟨i, h, rfl, rfl, i1, h1, by omega, HI, Lib.hid (Or.inr HLV.out), S2⟩
        case measure => simp [intOf]; omega
    · have hij : i = j := by omega
      subst hij
      have HF2 : Hid (∀ D, Rot a (a + 1) i d D → SortedIn (ltOf cf) a b D ∧ Stab (ltOf cf) Rel D) := Lib.hid (fun D hr => HFIN.out i D (by omega) j1 HI.out HJ.out hr)
      have HK0 : Hid (Rot a (a + 1) (a + 1) d d ∧ PermIn a b d d) := Lib.hid ⟨(rot_none d a (a + 1) (by omega)).2, Sort.permIn_refl _ _ _⟩
      clear HI HJ HFIN hlt ij
      go_wp2_with fail
      go_loopw [13] (fun kv wr => ∃ (k : Nat) (dk : Array Gp), kv = .int .i64 k ∧ a ≤ k ∧ k + 1 ≤ i ∧ Hid (Rot a (a + 1) (k + 1) d dk ∧ PermIn a b d dk) ∧ Hid (SW encG w0 blk off dk wr)) (fun kv _ => i - (intOf kv).toNat)
      case atStart => exact ⟨a, d, rfl, Nat.le_refl _, by omega, HK0, S1⟩
      case round =>
        clear S1 HK0
        obtain ⟨k, dk, rfl, k1, k2, HK, S1⟩ := hrel
        have hz := HK.out.1.1
        by_cases hlt : k + 1 < i
        · have hltz : (k : Int) < (i : Int) - 1 := by omega
          have HK2 : Hid (Rot a (a + 1) (k + 2) d (swp dk k (k + 1)) ∧ PermIn a b d (swp dk k (k + 1))) := Lib.hid ⟨rot_up k1 (by omega) HK.out.1, Sort.permIn_trans _ _ _ _ _ HK.out.2 (Sort.swp_permIn _ _ _ _ _ k1 (by omega) (by omega) (by omega) (by omega))⟩
          go_wp2_with fail
          obtain ⟨p, hp⟩ : ∃ p, p = k := ⟨_, rfl⟩
          obtain ⟨q, hq⟩ : ∃ q, q = k + 1 := ⟨_, rfl⟩
          have ea : ((k : Int)).toNat = p := by omega
          have pa : (0 : Int) ≤ (k : Int) := by omega
          have ba : (k : Int) < (N : Int) := by omega
          have ra : IntKind.i64.wrap ((k : Int)) = (k : Int) := by rw [IntKind.wrap_i64]; omega
          have ec : ((k : Int) + 1).toNat = q := by omega
          have pc : (0 : Int) ≤ (k : Int) + 1 := by omega
          have bc : (k : Int) + 1 < (N : Int) := by omega
          have rc : IntKind.i64.wrap ((k : Int) + 1) = (k : Int) + 1 := by rw [IntKind.wrap_i64]; omega
          obtain ⟨x, hx⟩ : ∃ x, x = dk[p]! := ⟨_, rfl⟩
          obtain ⟨y, hy⟩ : ∃ x, x = dk[q]! := ⟨_, rfl⟩
          have S2 : Hid (SW encG w0 blk off (swp dk (k) (k + 1)) ((wr.setCell ⟨blk, off + p, none⟩ (encG y)).setCell ⟨blk, off + q, none⟩ (encG x)).drew) := by
            rw [hx, hy, hp, hq]
            exact S1.out.swapped R (k) (k + 1) (by omega) (by omega)
          have c1 := S1.out.c1 R (by omega) p (by omega)
          have c2 := S1.out.c1 R (by omega) q (by omega)
          have f1 := S1.out.f1 R (by omega) p (by omega)
          have f2 := S1.out.f1 R (by omega) q (by omega)
          obtain ⟨u, c3⟩ := S1.out.c2 R (by omega) p q (by omega) (by omega) (encG y)
          rw [← hx] at c1
          rw [← hy] at c2
          clear S1 hx hy hp hq
          go_big_region
          clear c1 c2 c3 f1 f2
          generalize ((wr.setCell ⟨blk, off + p, none⟩ (encG y)).setCell ⟨blk, off + q, none⟩ (encG x)).drew = w2 at S2 ⊢
          clear ea ec pa ba ra pc bc rc
          go_wp2_with fail
          go_roundw
          case rel => exact ⟨k + 1, _, by go_num, by omega, by omega, HK2, S2⟩
          case measure => simp [intOf]; omega
        · have hki : k + 1 = i := by omega
          have hltz : ¬ (k : Int) < (i : Int) - 1 := by omega
          have HEND : Hid (PermIn a b d dk ∧ SortedIn (ltOf cf) a b dk ∧ Stab (ltOf cf) Rel dk) := Lib.hid (by
            have h := HF2.out dk (by have := HK.out.1; rwa [hki] at this)
            exact ⟨HK.out.2, h.1, h.2⟩)
          clear hki
          go_wp2_with fail
          go_end0
          exact ⟨rfl, dk, HEND.out.1, HEND.out.2.1, HEND.out.2.2, S1.out⟩

set_option maxRecDepth 100000 in
set_option maxHeartbeats 4000000 in
theorem sym_right (g : Nat) (cf : Gp → Gp → Int) (hc : Cmps g cf) (eg : ∀ args w, (callFunc g args).run Tryz.prog w = .ok (.enter g args) w) (hO : SWO (ltOf cf)) (Rel : Gp → Gp → Prop) (blk off cap N a m b : Nat) (d0 d : Array Gp) (w0 w : World) (R : Row1 encG w0 blk off d0) (hs0 : d0.size = N) (hs : d.size = N) (S : SW encG w0 blk off d w)
    (ham : a + 1 < m) (hmb : b = m + 1) (hb : b ≤ N) (hN : N ≤ 481) (h1 : SortedIn (ltOf cf) a m d) (hst : Stab (ltOf cf) Rel d) :
    Calls Tryz.prog 270 #[.slice (some ⟨blk, off, none⟩) N cap, .int .i64 a, .int .i64 m, .int .i64 b, .func (.func g) #[] #[]] w (Merged cf Rel w0 blk off a b d) := by
  have hcl0 := R.hO.cells
  simp only [Value.cells] at hcl0
  have hst0 := R.hO.store Tryz.prog
  have S0 : Hid (SW encG w0 blk off d w) := S
  have HC := Lib.hid hc
  have HO := Lib.hid hO
  have HFIN : Hid (∀ (i : Nat) (D : Array Gp), a ≤ i → i ≤ m → (i = a ∨ ltOf cf d[m]! d[i - 1]! = false) → (i = m ∨ ltOf cf d[m]! d[i]! = true) → Rot i m (m + 1) d D → SortedIn (ltOf cf) a b D ∧ Stab (ltOf cf) Rel D) :=
    Lib.hid (fun i D i1 i2 h3 h4 hr => by rw [hmb]; exact ins_right hO i1 i2 (by omega) h1 hst h3 h4 hr)
  have ht : ((m : Int) - (a : Int) == 1) = false := by simp; omega
  have ht2 : ((b : Int) - (m : Int) == 1) = true := by simp; omega
  have hma : m + 1 ≤ b ∧ b ≤ m + 1 := by omega
  obtain ⟨hma1, hma2⟩ := hma
  clear S hc h1 hst hmb hO
  go_enter Tryz.func270, Tryz.ntmps270
  go_wp2_with fail
  clear ht ht2
  go_loopw [14, 15] (fun iv jv wr => ∃ i j : Nat, iv = .int .i64 i ∧ jv = .int .i64 j ∧ a ≤ i ∧ i ≤ j ∧ j ≤ m ∧ Hid (i = a ∨ ltOf cf d[m]! d[i - 1]! = false) ∧ Hid (j = m ∨ ltOf cf d[m]! d[j]! = true) ∧ Hid (SW encG w0 blk off d wr)) (fun iv jv _ => (intOf jv).toNat - (intOf iv).toNat)
  case atStart => exact ⟨a, m, rfl, rfl, Nat.le_refl _, by omega, Nat.le_refl _, Lib.hid (Or.inl rfl), Lib.hid (Or.inl rfl), S0⟩
  case round =>
    clear S0
    obtain ⟨i, j, rfl, rfl, i1, ij, j1, HI, HJ, S1⟩ := hrel
    by_cases hlt : i < j
    · have hltz : (i : Int) < (j : Int) := by omega
      obtain ⟨h, hh⟩ : ∃ h : Nat, ((i : Int) + (j : Int)) / 2 = (h : Int) := ⟨(i + j) / 2, by omega⟩
      have h1 : i ≤ h ∧ h < j := by omega
      obtain ⟨h1, h2⟩ := h1
      go_wp2_with fail
      clear hh
      cases hlv : ltOf cf d[m]! d[h]! with
      | false =>
        obtain ⟨x, hx⟩ : ∃ x, x = d[m]! := ⟨_, rfl⟩
        obtain ⟨y, hy⟩ : ∃ x, x = d[h]! := ⟨_, rfl⟩
        have c1 := S1.out.c1 R (by omega) (m) (by omega)
        have c2 := S1.out.c1 R (by omega) (h) (by omega)
        rw [← hx] at c1
        rw [← hy] at c2
        have cc : ∀ q, Calls Tryz.prog g #[encG x, encG y] (wr.drewN q) fun e w' => e = .returned (.int .i64 (cf x y)) ∧ w' = wr.drewN q := fun q => (HC.out x y _).mono (by rintro e w' ⟨rfl, rfl⟩; exact ⟨rfl, rfl⟩)
        have hv : ¬ cf x y < 0 := by rw [hx, hy]; exact of_decide_eq_false hlv
        have hd : decide (cf x y < 0) = false := decide_eq_false hv
        have HLV := Lib.hid hlv
        clear hx hy hlv
        go_quiet (first | (go_at_fn g; refine Calls.quiet_of_same (cc _)))
        have S2 : Hid (SW encG w0 blk off d (wr.drewN nq)) := Lib.hid (S1.out.drewN nq)
        clear c1 c2 cc S1
        generalize wr.drewN nq = w2 at S2 ⊢
        clear nq
        go_wp2_with fail
        go_roundw
        case rel => exact ⟨h + 1, j, by go_num, rfl, by omega, by omega, j1, Lib.hid (Or.inr (by rw [show h + 1 - 1 = h by omega]; exact HLV.out)), HJ, S2⟩
        case measure => simp [intOf]; omega
      | true =>
        obtain ⟨x, hx⟩ : ∃ x, x = d[m]! := ⟨_, rfl⟩
        obtain ⟨y, hy⟩ : ∃ x, x = d[h]! := ⟨_, rfl⟩
        have c1 := S1.out.c1 R (by omega) (m) (by omega)
        have c2 := S1.out.c1 R (by omega) (h) (by omega)
        rw [← hx] at c1
        rw [← hy] at c2
        have cc : ∀ q, Calls Tryz.prog g #[encG x, encG y] (wr.drewN q) fun e w' => e = .returned (.int .i64 (cf x y)) ∧ w' = wr.drewN q := fun q => (HC.out x y _).mono (by rintro e w' ⟨rfl, rfl⟩; exact ⟨rfl, rfl⟩)
        have hv : cf x y < 0 := by rw [hx, hy]; exact of_decide_eq_true hlv
        have hd : decide (cf x y < 0) = true := decide_eq_true hv
        have HLV := Lib.hid hlv
        clear hx hy hlv
        go_quiet (first | (go_at_fn g; refine Calls.quiet_of_same (cc _)))
        have S2 : Hid (SW encG w0 blk off d (wr.drewN nq)) := Lib.hid (S1.out.drewN nq)
        clear c1 c2 cc S1
        generalize wr.drewN nq = w2 at S2 ⊢
        clear nq
        go_wp2_with fail
        go_roundw
        case rel => exact ⟨i, h, rfl, rfl, i1, h1, by omega, HI, Lib.hid (Or.inr HLV.out), S2⟩
        case measure => simp [intOf]; omega
    · have hij : i = j := by omega
      subst hij
      have HF2 : Hid (∀ D, Rot i m (m + 1) d D → SortedIn (ltOf cf) a b D ∧ Stab (ltOf cf) Rel D) := Lib.hid (fun D hr => HFIN.out i D i1 j1 HI.out HJ.out hr)
      have HK0 : Hid (Rot m m (m + 1) d d ∧ PermIn a b d d) := Lib.hid ⟨(rot_none d m (m + 1) (by omega)).1, Sort.permIn_refl _ _ _⟩
      clear HI HJ HFIN hlt ij
      go_wp2_with fail
      go_loopw [17] (fun kv wr => ∃ (k : Nat) (dk : Array Gp), kv = .int .i64 k ∧ i ≤ k ∧ k ≤ m ∧ Hid (Rot k m (m + 1) d dk ∧ PermIn a b d dk) ∧ Hid (SW encG w0 blk off dk wr)) (fun kv _ => (intOf kv).toNat)
      case atStart => exact ⟨m, d, rfl, by omega, Nat.le_refl _, HK0, S1⟩
      case round =>
        clear S1 HK0
        obtain ⟨k, dk, rfl, k1, k2, HK, S1⟩ := hrel
        have hz := HK.out.1.1
        by_cases hlt : i < k
        · obtain ⟨kp, rfl⟩ : ∃ kp, k = kp + 1 := ⟨k - 1, by omega⟩
          have hltz : (i : Int) < (kp : Int) + 1 := by omega
          have HK2 : Hid (Rot kp m (m + 1) d (swp dk (kp + 1) kp) ∧ PermIn a b d (swp dk (kp + 1) kp)) := Lib.hid ⟨rot_down k2 (by omega) HK.out.1, Sort.permIn_trans _ _ _ _ _ HK.out.2 (Sort.swp_permIn _ _ _ _ _ (by omega) (by omega) (by omega) (by omega) (by omega))⟩
          go_wp2_with fail
          obtain ⟨p, hp⟩ : ∃ p, p = kp + 1 := ⟨_, rfl⟩
          obtain ⟨q, hq⟩ : ∃ q, q = kp := ⟨_, rfl⟩
          have ea : ((kp : Int) + 1).toNat = p := by omega
          have pa : (0 : Int) ≤ (kp : Int) + 1 := by omega
          have ba : (kp : Int) + 1 < (N : Int) := by omega
          have ra : IntKind.i64.wrap ((kp : Int) + 1) = (kp : Int) + 1 := by rw [IntKind.wrap_i64]; omega
          have ec : ((kp : Int)).toNat = q := by omega
          have pc : (0 : Int) ≤ (kp : Int) := by omega
          have bc : (kp : Int) < (N : Int) := by omega
          have rc : IntKind.i64.wrap ((kp : Int)) = (kp : Int) := by rw [IntKind.wrap_i64]; omega
          obtain ⟨x, hx⟩ : ∃ x, x = dk[p]! := ⟨_, rfl⟩
          obtain ⟨y, hy⟩ : ∃ x, x = dk[q]! := ⟨_, rfl⟩
          have S2 : Hid (SW encG w0 blk off (swp dk (kp + 1) (kp)) ((wr.setCell ⟨blk, off + p, none⟩ (encG y)).setCell ⟨blk, off + q, none⟩ (encG x)).drew) := by
            rw [hx, hy, hp, hq]
            exact S1.out.swapped R (kp + 1) (kp) (by omega) (by omega)
          have c1 := S1.out.c1 R (by omega) p (by omega)
          have c2 := S1.out.c1 R (by omega) q (by omega)
          have f1 := S1.out.f1 R (by omega) p (by omega)
          have f2 := S1.out.f1 R (by omega) q (by omega)
          obtain ⟨u, c3⟩ := S1.out.c2 R (by omega) p q (by omega) (by omega) (encG y)
          rw [← hx] at c1
          rw [← hy] at c2
          clear S1 hx hy hp hq
          go_big_region
          clear c1 c2 c3 f1 f2
          generalize ((wr.setCell ⟨blk, off + p, none⟩ (encG y)).setCell ⟨blk, off + q, none⟩ (encG x)).drew = w2 at S2 ⊢
          clear ea ec pa ba ra pc bc rc
          go_wp2_with fail
          go_roundw
          case rel => exact ⟨kp, _, by go_num, by omega, by omega, HK2, S2⟩
          case measure => simp [intOf]
        · have hki : k = i := by omega
          have hltz : ¬ (i : Int) < (k : Int) := by omega
          have HEND : Hid (PermIn a b d dk ∧ SortedIn (ltOf cf) a b dk ∧ Stab (ltOf cf) Rel dk) := Lib.hid (by
            have h := HF2.out dk (by have := HK.out.1; rwa [hki] at this)
            exact ⟨HK.out.2, h.1, h.2⟩)
          clear hki
          go_wp2_with fail
          go_end0
          exact ⟨rfl, dk, HEND.out.1, HEND.out.2.1, HEND.out.2.2, S1.out⟩

end Go.Proofs.YtmcblhgpcgnaoaaGreatDoor


namespace Go.Proofs.YtmcblhgpcgnaoaaGreatDoor
open Go.RowKit
open Go.Sort (swp SWO PermIn SortedIn size_swp insertionSort)

/-- Between which two the place is sought from which on the parts are turned round. -/
def Ends (a m b mid lo hi : Nat) : Prop := (lo = a ∧ hi = m ∧ m ≤ mid) ∨ (lo + b = mid + m ∧ hi = mid ∧ mid < m)

set_option maxRecDepth 100000 in
set_option maxHeartbeats 4000000 in
theorem sym_gen (g : Nat) (cf : Gp → Gp → Int) (hc : Cmps g cf) (eg : ∀ args w, (callFunc g args).run Tryz.prog w = .ok (.enter g args) w) (hO : SWO (ltOf cf)) (Rel : Gp → Gp → Prop) (blk off cap N a m b : Nat) (d0 d : Array Gp) (w0 w : World) (R : Row1 encG w0 blk off d0) (hs0 : d0.size = N) (hs : d.size = N) (S : SW encG w0 blk off d w)
    (ham : a + 1 < m) (hmb : m + 1 < b) (hb : b ≤ N) (hN : N ≤ 481) (h1 : SortedIn (ltOf cf) a m d) (h2 : SortedIn (ltOf cf) m b d) (hst : Stab (ltOf cf) Rel d)
    (IH : ∀ (a' m' b' : Nat) (d' : Array Gp) (w' : World), b' - a' < b - a → a' < m' → m' < b' → b' ≤ N → d'.size = N → SW encG w0 blk off d' w' → SortedIn (ltOf cf) a' m' d' → SortedIn (ltOf cf) m' b' d' → Stab (ltOf cf) Rel d' → Calls Tryz.prog 270 #[.slice (some ⟨blk, off, none⟩) N cap, .int .i64 a', .int .i64 m', .int .i64 b', .func (.func g) #[] #[]] w' (Merged cf Rel w0 blk off a' b' d')) :
    Calls Tryz.prog 270 #[.slice (some ⟨blk, off, none⟩) N cap, .int .i64 a, .int .i64 m, .int .i64 b, .func (.func g) #[] #[]] w (Merged cf Rel w0 blk off a b d) := by
  have hcl0 := R.hO.cells
  simp only [Value.cells] at hcl0
  have hst0 := R.hO.store Tryz.prog
  have S0 : Hid (SW encG w0 blk off d w) := S
  have HC := Lib.hid hc
  have HO := Lib.hid hO
  have ht : ((m : Int) - (a : Int) == 1) = false := by simp; omega
  have ht2 : ((b : Int) - (m : Int) == 1) = false := by simp; omega
  obtain ⟨mid, hmid⟩ : ∃ mid : Nat, ((a : Int) + (b : Int)) / 2 = (mid : Int) := ⟨(a + b) / 2, by omega⟩
  have hmd : a + b ≤ 2 * mid + 1 ∧ 2 * mid ≤ a + b := by omega
  obtain ⟨hmd1, hmd2⟩ := hmd
  have HIH := Lib.hid IH
  have HHALF : Hid (∀ (lo hi s e : Nat), Ends a m b mid lo hi → lo ≤ s → s ≤ hi → s + e = mid + m → (s = lo ∨ ltOf cf d[e]! d[s - 1]! = false) → (s = hi ∨ ltOf cf d[e - 1]! d[s]! = true) → ∀ D, Rot s m e d D → Halved (ltOf cf) Rel a s mid e b D) :=
    Lib.hid (fun lo hi s e hE h3 h4 h5 h6 h7 D hr => halved hO (d := d) (by omega) h5 (by rcases hE with hE | hE <;> omega) (by rcases hE with hE | hE <;> omega) (by rcases hE with hE | hE <;> omega) (by rcases hE with hE | hE <;> omega) (by rcases hE with hE | hE <;> omega) (by rcases hE with hE | hE <;> omega) h1 h2 hst
      (fun f1 f2 => by rcases h6 with h6 | h6; · rcases hE with hE | hE <;> omega
                       exact h6) (fun f1 f2 => by rcases h7 with h7 | h7; · rcases hE with hE | hE <;> omega
                                                  exact h7) hr)
  have HROT : Hid (∀ (s e : Nat) (wr : World), SW encG w0 blk off d wr → s < m → m < e → e ≤ N → Calls Tryz.prog 292 #[.slice (some ⟨blk, off, none⟩) N cap, .int .i64 s, .int .i64 m, .int .i64 e, .func (.func g) #[] #[]] wr fun e' w' => e' = .returned (.tuple #[]) ∧ ∃ D, Rot s m e d D ∧ PermIn s e d D ∧ SW encG w0 blk off D w') :=
    Lib.hid (fun s e wr hS h3 h4 h5 => rotate_walk g blk off cap N s m e d0 d w0 wr R hs0 hs hS h3 h4 h5 hN)
  clear S hc h1 h2 hst hO IH
  go_enter Tryz.func270, Tryz.ntmps270
  go_upto_if 140 with fail
  clear ht ht2 hmid
  go_cut [20, 21] from 25 (fun s20 s21 wx => ∃ lo hi : Nat, s20 = .int .i64 lo ∧ s21 = .int .i64 hi ∧ Hid (Ends a m b mid lo hi) ∧ wx = w)
  case first =>
    by_cases hgt : mid < m
    · have z1 : (mid : Int) < (m : Int) := by omega
      go_wp2_with fail
      go_meet
      case rel => exact ⟨mid + m - b, mid, by congr 1; omega, rfl, Lib.hid (Or.inr ⟨by omega, rfl, hgt⟩), rfl⟩
    · have z1 : ¬ (mid : Int) < (m : Int) := by omega
      go_wp2_with fail
      go_meet
      case rel => exact ⟨a, m, rfl, rfl, Lib.hid (Or.inl ⟨rfl, rfl, by omega⟩), rfl⟩
  case rest =>
    obtain ⟨lo, hi, rfl, rfl, HE, rfl⟩ := hcut
    have hlh : lo ≤ hi ∧ hi ≤ m ∧ hi ≤ mid ∧ a ≤ lo ∧ mid + m ≤ lo + b := by rcases HE.out with h | h <;> omega
    obtain ⟨hlh1, hlh2, hlh3, hlh4, hlh5⟩ := hlh
    go_wp2_with fail
    go_loopw [20, 21] (fun sv rv wr => ∃ s r : Nat, sv = .int .i64 s ∧ rv = .int .i64 r ∧ lo ≤ s ∧ s ≤ r ∧ r ≤ hi ∧ Hid (s = lo ∨ ltOf cf d[mid + m - s]! d[s - 1]! = false) ∧ Hid (r = hi ∨ ltOf cf d[mid + m - 1 - r]! d[r]! = true) ∧ Hid (SW encG w0 blk off d wr)) (fun sv rv _ => (intOf rv).toNat - (intOf sv).toNat)
    case atStart => exact ⟨lo, hi, rfl, rfl, Nat.le_refl _, hlh1, Nat.le_refl _, Lib.hid (Or.inl rfl), Lib.hid (Or.inl rfl), S0⟩
    case round =>
      clear S0
      obtain ⟨s, r, rfl, rfl, s1, sr, r1, HI, HJ, S1⟩ := hrel
      by_cases hlt : s < r
      · have hltz : (s : Int) < (r : Int) := by omega
        obtain ⟨c, hh⟩ : ∃ c : Nat, ((s : Int) + (r : Int)) / 2 = (c : Int) := ⟨(s + r) / 2, by omega⟩
        have h1 : s ≤ c ∧ c < r := by omega
        obtain ⟨h1, h2⟩ := h1
        go_wp2_with fail
        clear hh
        obtain ⟨p, hp⟩ : ∃ p, p = mid + m - 1 - c := ⟨_, rfl⟩
        have ea : ((mid : Int) + (m : Int) - 1 - (c : Int)).toNat = p := by omega
        have pa : (0 : Int) ≤ (mid : Int) + (m : Int) - 1 - (c : Int) := by omega
        have ba : (mid : Int) + (m : Int) - 1 - (c : Int) < (N : Int) := by omega
        have ra : IntKind.i64.wrap ((mid : Int) + (m : Int) - 1 - (c : Int)) = (mid : Int) + (m : Int) - 1 - (c : Int) := by rw [IntKind.wrap_i64]; omega
        have HP := Lib.hid hp
        have hpn : p < N := by omega
        clear hp
        cases hlv : ltOf cf d[p]! d[c]! with
        | false =>
          obtain ⟨x, hx⟩ : ∃ x, x = d[p]! := ⟨_, rfl⟩
          obtain ⟨y, hy⟩ : ∃ x, x = d[c]! := ⟨_, rfl⟩
          have c1 := S1.out.c1 R (by omega) (p) (by omega)
          have c2 := S1.out.c1 R (by omega) (c) (by omega)
          rw [← hx] at c1
          rw [← hy] at c2
          have cc : ∀ q, Calls Tryz.prog g #[encG x, encG y] (wr.drewN q) fun e w' => e = .returned (.int .i64 (cf x y)) ∧ w' = wr.drewN q := fun q => (HC.out x y _).mono (by rintro e w' ⟨rfl, rfl⟩; exact ⟨rfl, rfl⟩)
          have hv : ¬ cf x y < 0 := by rw [hx, hy]; exact of_decide_eq_false hlv
          have hd : decide (cf x y < 0) = false := decide_eq_false hv
          have HLV := Lib.hid hlv
          clear hx hy hlv
          go_quiet (first | (go_at_fn g; refine Calls.quiet_of_same (cc _)))
          have S2 : Hid (SW encG w0 blk off d (wr.drewN nq)) := Lib.hid (S1.out.drewN nq)
          clear c1 c2 cc S1
          generalize wr.drewN nq = w2 at S2 ⊢
          clear nq
          clear ea pa ba ra
          go_wp2_with fail
          go_roundw
          case rel => exact ⟨c + 1, r, by go_num, rfl, by omega, by omega, r1, Lib.hid (Or.inr (by rw [show c + 1 - 1 = c by omega, show mid + m - (c + 1) = p by rw [HP.out]; omega]; exact HLV.out)), HJ, S2⟩
          case measure => simp [intOf]; omega
        | true =>
          obtain ⟨x, hx⟩ : ∃ x, x = d[p]! := ⟨_, rfl⟩
          obtain ⟨y, hy⟩ : ∃ x, x = d[c]! := ⟨_, rfl⟩
          have c1 := S1.out.c1 R (by omega) (p) (by omega)
          have c2 := S1.out.c1 R (by omega) (c) (by omega)
          rw [← hx] at c1
          rw [← hy] at c2
          have cc : ∀ q, Calls Tryz.prog g #[encG x, encG y] (wr.drewN q) fun e w' => e = .returned (.int .i64 (cf x y)) ∧ w' = wr.drewN q := fun q => (HC.out x y _).mono (by rintro e w' ⟨rfl, rfl⟩; exact ⟨rfl, rfl⟩)
          have hv : cf x y < 0 := by rw [hx, hy]; exact of_decide_eq_true hlv
          have hd : decide (cf x y < 0) = true := decide_eq_true hv
          have HLV := Lib.hid hlv
          clear hx hy hlv
          go_quiet (first | (go_at_fn g; refine Calls.quiet_of_same (cc _)))
          have S2 : Hid (SW encG w0 blk off d (wr.drewN nq)) := Lib.hid (S1.out.drewN nq)
          clear c1 c2 cc S1
          generalize wr.drewN nq = w2 at S2 ⊢
          clear nq
          clear ea pa ba ra
          go_wp2_with fail
          go_roundw
          case rel => exact ⟨s, c, rfl, rfl, s1, h1, by omega, HI, Lib.hid (Or.inr (by rw [← HP.out]; exact HLV.out)), S2⟩
          case measure => simp [intOf]; omega
      · have hsr : s = r := by omega
        subst hsr
        obtain ⟨e, he⟩ : ∃ e : Nat, (mid : Int) + (m : Int) - (s : Int) = (e : Int) := ⟨mid + m - s, by omega⟩
        have e1 : s + e = mid + m := by omega
        have HF : Hid (∀ D, Rot s m e d D → Halved (ltOf cf) Rel a s mid e b D) := Lib.hid (HHALF.out lo hi s e HE.out s1 r1 e1 (by rw [show e = mid + m - s by omega]; exact HI.out) (by rw [show e - 1 = mid + m - 1 - s by omega]; exact HJ.out))
        have e2 : a ≤ s ∧ s ≤ m ∧ s ≤ mid ∧ m ≤ e ∧ mid ≤ e ∧ e ≤ b := by rcases HE.out with h | h <;> omega
        obtain ⟨e2, e3, e4, e5, e6, e7⟩ := e2
        clear HI HJ HHALF HE hlt sr s1 r1 hlh1 hlh2 hlh3 hlh4 hlh5
        go_upto_region 39 with fail
        go_cut [185] from 25 (fun sb wx => sb = .bool (decide (s < m) && decide (m < e)) ∧ wx = wr)
        case first =>
          by_cases hA : s < m
          · have zA : (s : Int) < (m : Int) := by omega
            by_cases hB : m < e
            · have zB : (m : Int) < (e : Int) := by omega
              go_wp2_with fail
              go_meet
              case rel => exact ⟨by rw [decide_eq_true hA, decide_eq_true hB]; rfl, rfl⟩
            · have zB : ¬ (m : Int) < (e : Int) := by omega
              go_wp2_with fail
              go_meet
              case rel => exact ⟨by rw [decide_eq_false hB, Bool.and_false], rfl⟩
          · have zA : ¬ (s : Int) < (m : Int) := by omega
            go_wp2_with fail
            go_meet
            case rel => exact ⟨by rw [decide_eq_false hA]; rfl, rfl⟩
        case rest =>
          as_aux_lemma =>
            obtain ⟨rfl, rfl⟩ := hcut
            clear he
            go_upto_if 185 with fail
            go_cut [] from 25 (fun wx => ∃ D, Hid (Halved (ltOf cf) Rel a s mid e b D ∧ PermIn a b d D) ∧ Hid (SW encG w0 blk off D wx))
            case first =>
              cases hbb : (decide (s < m) && decide (m < e)) with
              | true =>
                simp only [Bool.and_eq_true, decide_eq_true_eq] at hbb
                have cR := HROT.out s e _ S1.out hbb.1 hbb.2 (by omega)
                clear hbb
                go_wp2_with fail
                refine cR.mono ?_
                rintro e' w2 ⟨rfl, D, hr, hpm, hS2⟩
                have HD : Hid (Halved (ltOf cf) Rel a s mid e b D ∧ PermIn a b d D) := Lib.hid ⟨HF.out D hr, Sort.permIn_mono _ _ _ _ _ _ e2 e7 (by omega) hpm⟩
                have S2 := Lib.hid hS2
                clear cR hr hpm hS2
                go_wp2_with fail
                go_meet
                case rel => exact ⟨D, HD, S2⟩
              | false =>
                have HD : Hid (Halved (ltOf cf) Rel a s mid e b d ∧ PermIn a b d d) := Lib.hid ⟨HF.out d (by
                  simp only [Bool.and_eq_false_iff, decide_eq_false_iff_not] at hbb
                  rcases hbb with h | h
                  · rw [show s = m by omega]; exact (rot_none d m e (by omega)).1
                  · rw [show e = m by omega]; exact (rot_none d s m (by omega)).2), Sort.permIn_refl _ _ _⟩
                clear hbb
                go_wp2_with fail
                go_meet
                case rel => exact ⟨d, HD, S1⟩
            case rest =>
              as_aux_lemma =>
                obtain ⟨D, HD, S2⟩ := hcut
                clear S1 HF HROT
                go_upto_region 41 with fail
                go_cut [199] from 25 (fun sb wx => sb = .bool (decide (a < s) && decide (s < mid)) ∧ wx = wc)
                case first =>
                  by_cases hA : a < s
                  · have zA : (a : Int) < (s : Int) := by omega
                    by_cases hB : s < mid
                    · have zB : (s : Int) < (mid : Int) := by omega
                      go_wp2_with fail
                      go_meet
                      case rel => exact ⟨by rw [decide_eq_true hA, decide_eq_true hB]; rfl, rfl⟩
                    · have zB : ¬ (s : Int) < (mid : Int) := by omega
                      go_wp2_with fail
                      go_meet
                      case rel => exact ⟨by rw [decide_eq_false hB, Bool.and_false], rfl⟩
                  · have zA : ¬ (a : Int) < (s : Int) := by omega
                    go_wp2_with fail
                    go_meet
                    case rel => exact ⟨by rw [decide_eq_false hA]; rfl, rfl⟩
                case rest =>
                  as_aux_lemma =>
                    obtain ⟨rfl, rfl⟩ := hcut
                    go_upto_if 199 with fail
                    go_cut [] from 25 (fun wx => ∃ D2, Hid (PermIn a mid D D2 ∧ SortedIn (ltOf cf) a mid D2 ∧ Stab (ltOf cf) Rel D2) ∧ Hid (SW encG w0 blk off D2 wx))
                    case first =>
                      cases hbb : (decide (a < s) && decide (s < mid)) with
                      | true =>
                        simp only [Bool.and_eq_true, decide_eq_true_eq] at hbb
                        have cM := HIH.out a s mid D _ (by omega) hbb.1 hbb.2 (by omega) (by rw [HD.out.2.1]; exact hs) S2.out HD.out.1.2.1 HD.out.1.2.2.1 HD.out.1.1
                        clear hbb
                        go_wp2_with fail
                        refine cM.mono ?_
                        rintro e' w2 ⟨rfl, D2, p2, o2, t2, hS3⟩
                        have HD2 : Hid (PermIn a mid D D2 ∧ SortedIn (ltOf cf) a mid D2 ∧ Stab (ltOf cf) Rel D2) := Lib.hid ⟨p2, o2, t2⟩
                        have S3 := Lib.hid hS3
                        clear cM p2 o2 t2 hS3
                        go_wp2_with fail
                        go_meet
                        case rel => exact ⟨D2, HD2, S3⟩
                      | false =>
                        have HD2 : Hid (PermIn a mid D D ∧ SortedIn (ltOf cf) a mid D ∧ Stab (ltOf cf) Rel D) := Lib.hid ⟨Sort.permIn_refl _ _ _, by
                          simp only [Bool.and_eq_false_iff, decide_eq_false_iff_not] at hbb
                          rcases hbb with h | h
                          · have h' := HD.out.1.2.2.1
                            rwa [show s = a by omega] at h'
                          · have h' := HD.out.1.2.1
                            rwa [show s = mid by omega] at h', HD.out.1.1⟩
                        clear hbb
                        go_wp2_with fail
                        go_meet
                        case rel => exact ⟨D, HD2, S2⟩
                    case rest =>
                      as_aux_lemma =>
                        obtain ⟨D2, HD2, S3⟩ := hcut
                        clear S2
                        go_upto_region 43 with fail
                        go_cut [213] from 25 (fun sb wx => sb = .bool (decide (mid < e) && decide (e < b)) ∧ wx = wc)
                        case first =>
                          by_cases hA : mid < e
                          · have zA : (mid : Int) < (e : Int) := by omega
                            by_cases hB : e < b
                            · have zB : (e : Int) < (b : Int) := by omega
                              go_wp2_with fail
                              go_meet
                              case rel => exact ⟨by rw [decide_eq_true hA, decide_eq_true hB]; rfl, rfl⟩
                            · have zB : ¬ (e : Int) < (b : Int) := by omega
                              go_wp2_with fail
                              go_meet
                              case rel => exact ⟨by rw [decide_eq_false hB, Bool.and_false], rfl⟩
                          · have zA : ¬ (mid : Int) < (e : Int) := by omega
                            go_wp2_with fail
                            go_meet
                            case rel => exact ⟨by rw [decide_eq_false hA]; rfl, rfl⟩
                        case rest =>
                          as_aux_lemma =>
                            obtain ⟨rfl, rfl⟩ := hcut
                            have HS2 : Hid (SortedIn (ltOf cf) mid e D2 ∧ SortedIn (ltOf cf) e b D2) := Lib.hid ⟨sorted_same HD.out.1.2.2.2.1 (fun k k1 k2 => HD2.out.1.2.1 k (Or.inr k1)), sorted_same HD.out.1.2.2.2.2.1 (fun k k1 k2 => HD2.out.1.2.1 k (Or.inr (by omega)))⟩
                            have hz2 : D2.size = N := by rw [HD2.out.1.1, HD.out.2.1]; exact hs
                            have HG : Hid (∀ D3, PermIn mid b D2 D3 → SortedIn (ltOf cf) mid b D3 → PermIn a b d D3 ∧ SortedIn (ltOf cf) a b D3) := Lib.hid (fun D3 p3 o3 => by
                              have h := glue_halves (by omega) (by omega) (by rw [HD.out.2.1]; omega) HD.out.1.2.2.2.2.2 HD2.out.1 HD2.out.2.1 p3 o3
                              exact ⟨Sort.permIn_trans _ _ _ _ _ HD.out.2 h.1, h.2⟩)
                            cases hbb : (decide (mid < e) && decide (e < b)) with
                            | true =>
                              simp only [Bool.and_eq_true, decide_eq_true_eq] at hbb
                              have cM := HIH.out mid e b D2 _ (by omega) hbb.1 hbb.2 hb hz2 S3.out HS2.out.1 HS2.out.2 HD2.out.2.2
                              clear hbb hz2
                              go_wp2_with fail
                              refine cM.mono ?_
                              rintro e' w2 ⟨rfl, D3, p3, o3, t3, hS4⟩
                              have HEND : Hid ((PermIn a b d D3 ∧ SortedIn (ltOf cf) a b D3) ∧ Stab (ltOf cf) Rel D3 ∧ SW encG w0 blk off D3 w2) := Lib.hid ⟨HG.out D3 p3 o3, t3, hS4⟩
                              clear cM p3 o3 t3 hS4
                              go_wp2_with fail
                              go_end0
                              exact ⟨rfl, D3, HEND.out.1.1, HEND.out.1.2, HEND.out.2.1, HEND.out.2.2⟩
                            | false =>
                              have HEND : Hid (PermIn a b d D2 ∧ SortedIn (ltOf cf) a b D2) := Lib.hid (HG.out D2 (Sort.permIn_refl _ _ _) (by
                                simp only [Bool.and_eq_false_iff, decide_eq_false_iff_not] at hbb
                                rcases hbb with h | h
                                · have h' := HS2.out.2
                                  rwa [show e = mid by omega] at h'
                                · have h' := HS2.out.1
                                  rwa [show e = b by omega] at h'))
                              clear hbb hz2
                              go_wp2_with fail
                              go_end0
                              exact ⟨rfl, D2, HEND.out.1, HEND.out.2, HD2.out.2.2, S3.out⟩

theorem sym_any (g : Nat) (cf : Gp → Gp → Int) (hc : Cmps g cf) (eg : ∀ args w, (callFunc g args).run Tryz.prog w = .ok (.enter g args) w) (hO : SWO (ltOf cf)) (Rel : Gp → Gp → Prop) (blk off cap N : Nat) (d0 : Array Gp) (w0 : World) (R : Row1 encG w0 blk off d0) (hs0 : d0.size = N) (hN : N ≤ 481) :
    ∀ (k a m b : Nat) (d : Array Gp) (w : World), b - a ≤ k → a < m → m < b → b ≤ N → d.size = N → SW encG w0 blk off d w → SortedIn (ltOf cf) a m d → SortedIn (ltOf cf) m b d → Stab (ltOf cf) Rel d →
      Calls Tryz.prog 270 #[.slice (some ⟨blk, off, none⟩) N cap, .int .i64 a, .int .i64 m, .int .i64 b, .func (.func g) #[] #[]] w (Merged cf Rel w0 blk off a b d)
  | 0, a, m, b, d, w, hk, ham, hmb, _, _, _, _, _, _ => by omega
  | k + 1, a, m, b, d, w, hk, ham, hmb, hb, hs, S, h1, h2, hst => by
    by_cases c1 : m = a + 1
    · exact sym_left g cf hc eg hO Rel blk off cap N a m b d0 d w0 w R hs0 hs S c1 hmb hb hN h2 hst
    · by_cases c2 : b = m + 1
      · exact sym_right g cf hc eg hO Rel blk off cap N a m b d0 d w0 w R hs0 hs S (by omega) c2 hb hN h1 hst
      · exact sym_gen g cf hc eg hO Rel blk off cap N a m b d0 d w0 w R hs0 hs S (by omega) (by omega) hb hN h1 h2 hst
          (fun a' m' b' d' w' q1 q2 q3 q4 q5 q6 q7 q8 q9 => sym_any g cf hc eg hO Rel blk off cap N d0 w0 R hs0 hN k a' m' b' d' w' (by omega) q2 q3 q4 q5 q6 q7 q8 q9)

end Go.Proofs.YtmcblhgpcgnaoaaGreatDoor


namespace Go.Proofs.YtmcblhgpcgnaoaaGreatDoor
open Go.RowKit
open Go.Sort (swp SWO PermIn SortedIn size_swp insertionSort)

theorem cmps_lays {g : Nat} {cf : Gp → Gp → Int} (hc : Cmps g cf) (blk off size : Nat) (w : World) : CmpLays1 Tryz.prog g #[] encG cf blk off size w :=
  CmpReads.lays (show CmpReads Tryz.prog g #[] encG cf blk off size w from fun m os dk _ x y => (hc x y (sortWorld encG w blk off m dk os)).mono (by rintro e w' ⟨rfl, rfl⟩; exact ⟨rfl, 0, rfl⟩))

theorem ins_walk (g : Nat) (cf : Gp → Gp → Int) (hc : Cmps g cf) (eg : ∀ args w, (callFunc g args).run Tryz.prog w = .ok (.enter g args) w) (hO : SWO (ltOf cf)) (Rel : Gp → Gp → Prop) (blk off cap N a b : Nat) (d0 d : Array Gp) (w0 w : World) (R : Row1 encG w0 blk off d0) (hs0 : d0.size = N) (hs : d.size = N) (S : SW encG w0 blk off d w) (hab : a ≤ b) (hb : b ≤ N) (hN : N ≤ 481) (hst : Stab (ltOf cf) Rel d) :
    Calls Tryz.prog 269 #[.slice (some ⟨blk, off, none⟩) N cap, .int .i64 a, .int .i64 b, .func (.func g) #[] #[]] w (Merged cf Rel w0 blk off a b d) := by
  have h := Any.insertionSortCmpFunc_s (P := Tryz.prog) (ρ := insL_ren) insL encG cf g #[] blk off cap a b d0 d w0 w eg (cmps_lays hc blk off d0.size w0) R (by omega) S hab (by omega) (by omega)
  change Calls Tryz.prog 269 _ _ _ at h
  rw [hs] at h
  refine h.mono ?_
  rintro e w' ⟨rfl, hS⟩
  have hp := Sort.insertionSort_holds hO d a b hab (by omega)
  exact ⟨rfl, _, hp.1, hp.2, insertion_stab (by omega) hst, hS⟩

/-- What the sort has made so far: the same gaps; equals in their order. -/
def Kept (cf : Gp → Gp → Int) (Rel : Gp → Gp → Prop) (w0 : World) (blk off N : Nat) (d dk : Array Gp) (wr : World) : Prop :=
  dk.size = N ∧ PermIn 0 N d dk ∧ Stab (ltOf cf) Rel dk ∧ SW encG w0 blk off dk wr

theorem Kept.merged {cf : Gp → Gp → Int} {Rel : Gp → Gp → Prop} {w0 w' : World} {blk off N a b : Nat} {d dk D : Array Gp} {wr : World} (h : Kept cf Rel w0 blk off N d dk wr) (hb : b ≤ N) (hp : PermIn a b dk D) (hst : Stab (ltOf cf) Rel D) (hS : SW encG w0 blk off D w') : Kept cf Rel w0 blk off N d D w' :=
  ⟨by rw [hp.1]; exact h.1, Sort.permIn_trans _ _ _ _ _ h.2.1 (Sort.permIn_mono _ _ _ _ _ _ (Nat.zero_le _) hb (by rw [h.1]; exact Nat.le_refl _) hp), hst, hS⟩

set_option maxRecDepth 100000 in
set_option maxHeartbeats 4000000 in
theorem stable_any (g : Nat) (cf : Gp → Gp → Int) (hc : Cmps g cf) (eg : ∀ args w, (callFunc g args).run Tryz.prog w = .ok (.enter g args) w) (hO : SWO (ltOf cf)) (Rel : Gp → Gp → Prop) (blk off cap N : Nat) (d : Array Gp) (w : World) (R : Row1 encG w blk off d) (hs : d.size = N) (hN : N ≤ 481) (hst : Stab (ltOf cf) Rel d) :
    Calls Tryz.prog 235 #[.slice (some ⟨blk, off, none⟩) N cap, .int .i64 N, .func (.func g) #[] #[]] w (Merged cf Rel w blk off 0 N d) := by
  have HINS : Hid (∀ (a b : Nat) (dk : Array Gp) (wr : World), a ≤ b → b ≤ N → Kept cf Rel w blk off N d dk wr → Calls Tryz.prog 269 #[.slice (some ⟨blk, off, none⟩) N cap, .int .i64 a, .int .i64 b, .func (.func g) #[] #[]] wr (Merged cf Rel w blk off a b dk)) :=
    Lib.hid (fun a b dk wr h1 h2 h => ins_walk g cf hc eg hO Rel blk off cap N a b d dk w wr R hs h.1 h.2.2.2 h1 h2 hN h.2.2.1)
  have HSYM : Hid (∀ (a m b : Nat) (dk : Array Gp) (wr : World), a < m → m < b → b ≤ N → Kept cf Rel w blk off N d dk wr → SortedIn (ltOf cf) a m dk → SortedIn (ltOf cf) m b dk → Calls Tryz.prog 270 #[.slice (some ⟨blk, off, none⟩) N cap, .int .i64 a, .int .i64 m, .int .i64 b, .func (.func g) #[] #[]] wr (Merged cf Rel w blk off a b dk)) :=
    Lib.hid (fun a m b dk wr h1 h2 h3 h h4 h5 => sym_any g cf hc eg hO Rel blk off cap N d w R hs hN (b - a) a m b dk wr (Nat.le_refl _) h1 h2 h3 h.1 h.2.2.2 h4 h5 h.2.2.1)
  have K0 : Hid (Kept cf Rel w blk off N d d w) := Lib.hid ⟨hs, Sort.permIn_refl _ _ _, hst, SW.start R.hH⟩
  have B0 : Hid (∃ q, 0 = q * 20 ∧ Blocks (ltOf cf) 20 0 0 N d) := Lib.hid ⟨0, rfl, blocks_none 20 N d⟩
  clear hc hO hst R hs
  go_enter Tryz.func235, Tryz.ntmps235
  go_wp2_with fail
  go_loopw [7, 8] (fun av bv wr => ∃ (a : Nat) (dk : Array Gp), av = .int .i64 a ∧ bv = .int .i64 ((a : Int) + 20) ∧ a ≤ N ∧ Hid (∃ q, a = q * 20 ∧ Blocks (ltOf cf) 20 0 a N dk) ∧ Hid (Kept cf Rel w blk off N d dk wr)) (fun av _ _ => N - (intOf av).toNat)
  case atStart => exact ⟨0, d, rfl, rfl, Nat.zero_le _, B0, K0⟩
  case round =>
    clear K0 B0
    obtain ⟨a, dk, rfl, rfl, ha, HB, HK⟩ := hrel
    by_cases hle : a + 20 ≤ N
    · have hz : (a : Int) + 20 ≤ (N : Int) := by omega
      have c := HINS.out a (a + 20) dk wr (by omega) hle HK.out
      rw [show ((a + 20 : Nat) : Int) = (a : Int) + 20 by omega] at c
      go_wp2_with fail
      refine c.mono ?_
      rintro e w2 ⟨rfl, D, hp, ho, ht, hS⟩
      have HK2 : Hid (Kept cf Rel w blk off N d D w2) := Lib.hid (HK.out.merged hle hp ht hS)
      have HB2 : Hid (∃ q, a + 20 = q * 20 ∧ Blocks (ltOf cf) 20 0 (a + 20) N D) := Lib.hid (by
        obtain ⟨q, hq, hbl⟩ := HB.out
        refine ⟨q + 1, by omega, ?_⟩
        rw [show a + 20 = (q + 1) * 20 by omega]
        rw [hq] at hbl hp ho
        exact blocks_more hbl hp ho)
      clear c hp ho ht hS HB HK
      go_wp2_with fail
      go_roundw
      case rel => exact ⟨a + 20, D, by go_num, by first | (congr 1; done) | (congr 1; omega), hle, HB2, HK2⟩
      case measure => simp [intOf]; omega
    · have hz : ¬ (a : Int) + 20 ≤ (N : Int) := by omega
      have c := HINS.out a N dk wr ha (Nat.le_refl _) HK.out
      go_wp2_with fail
      refine c.mono ?_
      rintro e w2 ⟨rfl, D, hp, ho, ht, hS⟩
      have HK2 : Hid (Kept cf Rel w blk off N d D w2) := Lib.hid (HK.out.merged (Nat.le_refl _) hp ht hS)
      have HB2 : Hid (Blocks (ltOf cf) 20 0 N N D) := Lib.hid (by
        obtain ⟨q, hq, hbl⟩ := HB.out
        rw [hq] at hbl hp ho
        exact blocks_last hbl (by omega) hp ho)
      clear c hp ho ht hS HB HK HINS
      go_wp2_with fail
      go_loopw [6] (fun sv wr => ∃ (bs : Nat) (dk : Array Gp), sv = .int .i64 bs ∧ 20 ≤ bs ∧ bs ≤ 1000 ∧ Hid (Blocks (ltOf cf) bs 0 N N dk) ∧ Hid (Kept cf Rel w blk off N d dk wr)) (fun sv _ => N - (intOf sv).toNat)
      case atStart => exact ⟨20, D, rfl, Nat.le_refl _, by omega, HB2, HK2⟩
      case round =>
        clear HB2 HK2
        obtain ⟨bs, dk, rfl, b1, b2, HB, HK⟩ := hrel
        by_cases hlt : bs < N
        · have hltz : (bs : Int) < (N : Int) := by omega
          have HB0 : Hid (∃ q, 0 = q * (2 * bs) ∧ Blocks (ltOf cf) (2 * bs) 0 0 N dk ∧ Blocks (ltOf cf) bs 0 N N dk) := Lib.hid ⟨0, by rw [Nat.zero_mul], blocks_none _ N dk, HB.out⟩
          clear HB
          go_wp2_with fail
          go_loopw [7, 8] (fun av bv wr => ∃ (a : Nat) (dk : Array Gp), av = .int .i64 a ∧ bv = .int .i64 ((a : Int) + 2 * (bs : Int)) ∧ a ≤ N ∧ Hid (∃ q, a = q * (2 * bs) ∧ Blocks (ltOf cf) (2 * bs) 0 a N dk ∧ Blocks (ltOf cf) bs a N N dk) ∧ Hid (Kept cf Rel w blk off N d dk wr)) (fun av _ _ => N - (intOf av).toNat)
          case atStart => exact ⟨0, dk, rfl, by first | (congr 1; done) | (congr 1; omega), Nat.zero_le _, HB0, HK⟩
          case round =>
            clear HB0 HK
            obtain ⟨a, dj, rfl, rfl, ha, HB, HK⟩ := hrel
            by_cases hle : a + 2 * bs ≤ N
            · have hz : (a : Int) + 2 * (bs : Int) ≤ (N : Int) := by omega
              have c := HSYM.out a (a + bs) (a + 2 * bs) dj wr (by omega) (by omega) hle HK.out (by
                obtain ⟨q, hq, _, hbl⟩ := HB.out
                rw [hq] at hbl hle ⊢
                exact (blocks_two hbl hle (by omega)).1) (by
                obtain ⟨q, hq, _, hbl⟩ := HB.out
                rw [hq] at hbl hle ⊢
                exact (blocks_two hbl hle (by omega)).2)
              rw [show ((a + bs : Nat) : Int) = (a : Int) + (bs : Int) by omega, show ((a + 2 * bs : Nat) : Int) = (a : Int) + 2 * (bs : Int) by omega] at c
              go_wp2_with fail
              refine c.mono ?_
              rintro e w3 ⟨rfl, D3, hp, ho, ht, hS⟩
              have HK2 : Hid (Kept cf Rel w blk off N d D3 w3) := Lib.hid (HK.out.merged hle hp ht hS)
              have HB2 : Hid (∃ q, a + 2 * bs = q * (2 * bs) ∧ Blocks (ltOf cf) (2 * bs) 0 (a + 2 * bs) N D3 ∧ Blocks (ltOf cf) bs (a + 2 * bs) N N D3) := Lib.hid (by
                obtain ⟨q, hq, hb1, hb2⟩ := HB.out
                have e1 : (q + 1) * (2 * bs) = a + 2 * bs := by rw [Nat.add_mul, Nat.one_mul, ← hq]
                refine ⟨q + 1, e1.symm, ?_, blocks_ahead hb2 (by omega) (Nat.le_refl _) (fun i hi => hp.2.1 i (Or.inr hi))⟩
                rw [← e1]
                rw [hq] at hb1 hp ho
                exact blocks_more hb1 hp ho)
              clear c hp ho ht hS HB HK
              go_wp2_with fail
              go_roundw
              case rel => exact ⟨a + 2 * bs, D3, by first | (congr 1; done) | (congr 1; omega), by first | (congr 1; done) | (congr 1; omega), hle, HB2, HK2⟩
              case measure => simp [intOf]; omega
            · have hz : ¬ (a : Int) + 2 * (bs : Int) ≤ (N : Int) := by omega
              by_cases hm : a + bs < N
              · have hmz : (a : Int) + (bs : Int) < (N : Int) := by omega
                have c := HSYM.out a (a + bs) N dj wr (by omega) hm (Nat.le_refl _) HK.out (by
                  obtain ⟨q, hq, _, hbl⟩ := HB.out
                  rw [hq] at hbl hm hle ⊢
                  exact (blocks_two_last hbl hm (by omega) (by omega)).1) (by
                  obtain ⟨q, hq, _, hbl⟩ := HB.out
                  rw [hq] at hbl hm hle ⊢
                  exact (blocks_two_last hbl hm (by omega) (by omega)).2)
                rw [show ((a + bs : Nat) : Int) = (a : Int) + (bs : Int) by omega] at c
                go_wp2_with fail
                refine c.mono ?_
                rintro e w3 ⟨rfl, D3, hp, ho, ht, hS⟩
                have HK2 : Hid (Kept cf Rel w blk off N d D3 w3) := Lib.hid (HK.out.merged (Nat.le_refl _) hp ht hS)
                have HB2 : Hid (Blocks (ltOf cf) (2 * bs) 0 N N D3) := Lib.hid (by
                  obtain ⟨q, hq, hb1, hb2⟩ := HB.out
                  rw [hq] at hb1 hp ho
                  exact blocks_last hb1 (by omega) hp ho)
                clear c hp ho ht hS HB HK
                go_wp2_with fail
                go_roundw
                case rel => exact ⟨2 * bs, D3, by first | (congr 1; done) | (congr 1; omega), by omega, by omega, HB2, HK2⟩
                case measure => simp [intOf]; omega
              · have hmz : ¬ (a : Int) + (bs : Int) < (N : Int) := by omega
                have HB2 : Hid (Blocks (ltOf cf) (2 * bs) 0 N N dj) := Lib.hid (by
                  obtain ⟨q, hq, hb1, hb2⟩ := HB.out
                  have ho : SortedIn (ltOf cf) (q * (2 * bs)) N dj := blocks_one_last (by rw [hq] at hb2; exact hb2) (by omega)
                  rw [hq] at hb1
                  exact blocks_last hb1 (by omega) (Sort.permIn_refl _ _ _) ho)
                clear HB
                go_wp2_with fail
                go_roundw
                case rel => exact ⟨2 * bs, dj, by first | (congr 1; done) | (congr 1; omega), by omega, by omega, HB2, HK⟩
                case measure => simp [intOf]; omega
        · have hltz : ¬ (bs : Int) < (N : Int) := by omega
          have HF : Hid (SortedIn (ltOf cf) 0 N dk) := Lib.hid (blocks_all HB.out (by omega))
          clear HB
          go_wp2_with fail
          go_end0
          exact ⟨rfl, dk, HK.out.2.1, HF.out, HK.out.2.2.1, HK.out.2.2.2⟩

set_option maxHeartbeats 400000 in
theorem sort_stable_any (g : Nat) (cf : Gp → Gp → Int) (hc : Cmps g cf) (eg : ∀ args w, (callFunc g args).run Tryz.prog w = .ok (.enter g args) w) (hO : SWO (ltOf cf)) (Rel : Gp → Gp → Prop) (blk off cap N : Nat) (d : Array Gp) (w : World) (R : Row1 encG w blk off d) (hs : d.size = N) (hN : N ≤ 481) (hst : Stab (ltOf cf) Rel d) :
    Calls Tryz.prog 186 #[.slice (some ⟨blk, off, none⟩) N cap, .func (.func g) #[] #[]] w (Merged cf Rel w blk off 0 N d) := by
  have c := stable_any g cf hc eg hO Rel blk off cap N d w R hs hN hst
  clear hc hO hst R hs
  go_enter Tryz.func186, Tryz.ntmps186
  go_wp2_with fail
  refine c.mono ?_
  rintro e w2 ⟨rfl, D, hp, ho, ht, hS⟩
  have HE := Lib.hid (And.intro hp (And.intro ho (And.intro ht hS)))
  clear c hp ho ht hS
  go_wp2_with fail
  go_end0
  exact ⟨rfl, D, HE.out⟩

end Go.Proofs.YtmcblhgpcgnaoaaGreatDoor


namespace Go.Proofs.YtmcblhgpcgnaoaaGreatDoor

/-! Sorting by exchanging neighbours -/

def SortedTo (T : List (Nat × Nat)) (i : Nat) : Prop := ∀ (a b : Nat) (p q : Nat × Nat), a < b → b < i → T[a]? = some p → T[b]? = some q → p.1 ≤ q.1

/-- In order at last: the list that rises. -/
theorem sorted_some {l : List (Nat × Nat)} {n : Nat} {T : List (Nat × Nat)} (hr : l.Pairwise (fun a b => a.1 + a.2 < b.1)) (hp : T.Perm (cutAt (byLen l) n)) (hs : SortedTo T T.length) : T = someOf l n := by
  have hT : T.Pairwise (fun a b => firstB a b = true) := by
    rw [List.pairwise_iff_getElem]
    intro i j hi hj hij
    unfold firstB
    rw [decide_eq_true_iff]
    exact hs i j _ _ hij hj (List.getElem?_eq_getElem hi) (List.getElem?_eq_getElem hj)
  have hperm : T.Perm (someOf l n) := hp.trans (someOf_perm l n).symm
  refine List.Perm.eq_of_pairwise (le := fun a b => firstB a b = true) ?_ hT (someOf_sorted l n) hperm
  intro a b ha hb h1 h2
  have ha' := hperm.mem_iff.1 ha
  unfold firstB at h1 h2
  rw [decide_eq_true_iff] at h1 h2
  have hf := some_firsts hr n
  obtain ⟨i, hi⟩ := List.mem_iff_getElem?.1 ha'
  obtain ⟨j, hj⟩ := List.mem_iff_getElem?.1 hb
  obtain ⟨hi', ei⟩ := List.getElem?_eq_some_iff.1 hi
  obtain ⟨hj', ej⟩ := List.getElem?_eq_some_iff.1 hj
  rcases Nat.lt_trichotomy i j with h | h | h
  · have := List.pairwise_iff_getElem.1 hf i j hi' hj' h
    rw [ei, ej] at this
    omega
  · subst h
    rw [hi] at hj
    cases hj
    rfl
  · have := List.pairwise_iff_getElem.1 hf j i hj' hi' h
    rw [ei, ej] at this
    omega

end Go.Proofs.YtmcblhgpcgnaoaaGreatDoor


namespace Go.Proofs.YtmcblhgpcgnaoaaGreatDoor
open Go.RowKit

theorem cut_zero : ∀ l : List (Nat × Nat), cutAt l 0 = []
  | [] => rfl
  | _ :: _ => rfl

theorem cut_more (p : Nat × Nat) (t : List (Nat × Nat)) {r : Nat} (h : 0 < r) : cutAt (p :: t) r = (p.1, min r p.2) :: cutAt t (r - min r p.2) := by
  show (if r = 0 then [] else if r ≤ p.2 then [(p.1, r)] else p :: cutAt t (r - p.2)) = _
  rw [if_neg (by omega)]
  by_cases h1 : r ≤ p.2
  · rw [if_pos h1, Nat.min_eq_left h1, Nat.sub_self, cut_zero]
  · rw [if_neg h1, Nat.min_eq_right (by omega)]

theorem count_cV (a n : Nat) (w : World) (hn : 1 ≤ n) (h : a + n ≤ 480) :
    Calls Tryz.prog 184 #[.complex .f64 (floatOfInt .f64 (a : Int)) (floatOfInt .f64 (n : Int))] w fun e w' => e = .returned (.int .i64 n) ∧ w = w' :=
  count_gp (mkG _ _ (a, n) (fi_ofInt _ (by omega)) (fi_ofInt _ (by omega)) h hn) w

set_option maxRecDepth 100000 in
set_option maxHeartbeats 1600000 in
theorem take_any (ao : Option Addr) (cap m k : Nat) (gs : List Gp) (w : World) (hV : Vals w ao m (gs.map encG)) (hm : m ≤ 481) (h1 : ∀ z ∈ gs, 1 ≤ (numG z).2) (hk : k ≤ 480) :
    Calls Tryz.prog 188 #[.slice ao m cap, .int .i64 k] w fun e w' => ∃ v, e = .returned (.tuple #[v, .int .i64 ((k - sumG (gs.map numG) : Nat) : Int)]) ∧ FreshV w' w.heap.size v ((cutAt (gs.map numG) k).map cV) ∧ Below w.heap.size w w' := by
  have hgl : gs.length = m := by have := hV.1; rwa [List.length_map] at this
  have HV := Lib.hid hV
  have HL := Lib.hid hgl
  have H1 := Lib.hid h1
  obtain ⟨l, HLL⟩ : ∃ l, Hid (l = gs.map numG) := ⟨_, Lib.hid rfl⟩
  have HG0 : Hid (([] : List (Nat × Nat)) ++ cutAt (l.drop 0) k = cutAt l k) := Lib.hid (by rw [List.nil_append, List.drop_zero])
  have HQ0 : Hid (k = k - sumG (l.take 0)) := Lib.hid (by rw [List.take_zero]; rfl)
  have HO0 := Lib.hid (World.ownsRow_nil w w.heap.size 93 1)
  have HB0 : Hid (Below w.heap.size w w) := Lib.hid (Below.refl _ _)
  have HEND : Hid (∀ (i r : Nat) (acc : List (Nat × Nat)), i ≤ m → (r = 0 ∨ i = m) → acc ++ cutAt (l.drop i) r = cutAt l k → r = k - sumG (l.take i) → acc = cutAt (gs.map numG) k ∧ r = k - sumG (gs.map numG)) := Lib.hid (fun i r acc hi he ha hr => by
    rw [← HLL.out]
    have hll : l.length = m := by rw [HLL.out, List.length_map]; exact hgl
    rcases he with he | he
    · rw [he, cut_zero, List.append_nil] at ha
      exact ⟨ha, by have := sumG_take_le l i; omega⟩
    · rw [he, List.drop_of_length_le (by omega)] at ha
      rw [he, List.take_of_length_le (by omega)] at hr
      exact ⟨by rw [← ha]; show acc = acc ++ []; rw [List.append_nil], hr⟩)
  clear hV h1 hgl
  go_enter Tryz.func188, Tryz.ntmps188
  go_wp2_with fail
  go_loopw [1, 4, 13] (fun nv vv iv wr => ∃ (i r : Nat) (acc : List (Nat × Nat)), i ≤ m ∧ r ≤ k ∧ acc.length ≤ i ∧ nv = .int .i64 r ∧ iv = .int .i64 i ∧ Hid (acc ++ cutAt (l.drop i) r = cutAt l k) ∧ Hid (r = k - sumG (l.take i)) ∧ Hid (wr.ownsRow w.heap.size 93 1 vv acc.length (acc.map cV)) ∧ Hid (Below w.heap.size w wr)) (fun _ _ iv _ => m - (intOf iv).toNat)
  case atStart => exact ⟨0, k, [], Nat.zero_le _, Nat.le_refl _, Nat.le_refl _, rfl, rfl, HG0, HQ0, HO0, HB0⟩
  case round =>
    clear HG0 HQ0 HO0 HB0
    obtain ⟨i, r, acc, hi, hr, hacc, rfl, rfl, HG, HQ, HR, HW⟩ := hrel
    by_cases hlt : i < m
    · have hVw := HV.out.later HW.out
      obtain ⟨b, off, rfl, hc⟩ := hVw.2.2.resolve_left (by omega)
      obtain ⟨z, hz⟩ : ∃ z, gs[i]? = some z := ⟨_, List.getElem?_eq_getElem (by rw [HL.out]; exact hlt)⟩
      have hcell := hc i (encG z) (by rw [List.getElem?_map, hz]; rfl)
      have hltz : (i : Int) < (m : Int) := by omega
      by_cases hr0 : r = 0
      · subst hr0
        have HF := Lib.hid (HEND.out i 0 acc hi (Or.inl rfl) HG.out HQ.out)
        unfold encG at hcell
        clear hVw hc hz HEND
        go_wp2_with fail
        go_ret2
        rw [HF.out.2.symm, HF.out.1.symm]
        exact ⟨_, rfl, owns_vals HR.out (by omega), HW.out⟩
      · have hzm := List.mem_of_getElem? hz
        have hz1 := H1.out z hzm
        have hz2 := gp_bound z
        have hlp : l[i]? = some (numG z) := by rw [HLL.out, List.getElem?_map, hz]; rfl
        have hdrop : l.drop i = numG z :: l.drop (i + 1) := by
          obtain ⟨h, e⟩ := List.getElem?_eq_some_iff.1 hlp
          rw [List.drop_eq_getElem_cons h, e]
        obtain ⟨c, hcm⟩ : ∃ c, c = min r (numG z).2 := ⟨_, rfl⟩
        have hc1 : 1 ≤ c ∧ c ≤ (numG z).2 ∧ c ≤ r := by omega
        obtain ⟨hc1, hc2, hc3⟩ := hc1
        have HG2 : Hid (acc ++ [((numG z).1, c)] ++ cutAt (l.drop (i + 1)) (r - c) = cutAt l k) := Lib.hid (by
          have h := HG.out
          rw [hdrop, cut_more _ _ (by omega), ← hcm] at h
          rw [List.append_assoc]
          exact h)
        have HQ2 : Hid (r - c = k - sumG (l.take (i + 1))) := Lib.hid (by
          rw [sumG_take hlp]
          have := HQ.out
          omega)
        have hmin : min (r : Int) ((numG z).2 : Int) = (c : Int) := by omega
        have HMIN := Lib.hid hmin
        have cz := count_gp z wr
        obtain ⟨u, v, hcut⟩ := Cut_any _ _ _ _ c (gp_fst z) (gp_snd z) hc1 hc2 hz2
        have cC := hcut wr
        have HCC := Lib.hid (fun w => count_cV (numG z).1 c w hc1 (by omega))
        have HS : Hid (w.heap.size ≤ wr.heap.size + 1) := Lib.hid (by have := HW.out.size; omega)
        have hrz : ((r : Int) == 0) = false := by simp; omega
        have HCV : Hid (cV ((numG z).1, c) = .complex .f64 (floatOfInt .f64 ((numG z).1 : Int)) (floatOfInt .f64 (c : Int))) := Lib.hid rfl
        have hbz : (c : Int) ≤ ((numG z).2 : Int) := by omega
        unfold encG at hcell cz
        generalize floatOfInt .f64 ((numG z).1 : Int) = X at *
        generalize floatOfInt .f64 (c : Int) = Y at *
        generalize ((numG z).2 : Int) = q at *
        clear hVw hc hz hzm hz1 hz2 hlp hdrop hcm hcut HEND HG HQ hr0
        go_wp2_with (go_at_call 184; refine cz.mono ?_; rintro e w' ⟨rfl, rfl⟩)
        refine cC.mono ?_
        rintro e w' ⟨rfl, rfl⟩
        clear cC cz hcell hmin
        go_wp2_with (first | (at_builtin; refine wp_append_one elemComplex rfl (.tmp 29) (.tmp 31) rfl w.heap.size acc.length _ _ rfl (HR.out.alloc _) ⟨w'.heap.size, 0, none⟩ 1 _ rfl (one_cell_new _ _ _) rfl rfl (by omega) (by simpa using HS.out) ?_; intro v1 w1 hown1 hb1; have HO1 := Lib.hid hown1; have HB1 := Lib.hid hb1; clear hown1 hb1))
        refine (HCC.out _).mono ?_
        rintro e w2 ⟨rfl, rfl⟩
        go_wp2_with fail
        go_roundw
        case rel =>
          refine ⟨i + 1, r - c, acc ++ [((numG z).1, c)], by omega, by omega, by rw [List.length_append]; simp; omega, by go_num, by go_num, HG2, HQ2, Lib.hid ?_, Lib.hid ((HW.out.alloc (by have := HW.out.size; exact this) _).trans HB1.out)⟩
          rw [List.length_append, List.map_append]
          have h := HO1.out
          rw [← HCV.out] at h
          exact h
        case measure => simp [intOf]; omega
    · have him : i = m := by omega
      subst him
      have HF := Lib.hid (HEND.out i r acc hi (Or.inr rfl) HG.out HQ.out)
      clear HEND
      go_wp2_with fail
      go_ret2
      rw [HF.out.2.symm, HF.out.1.symm]
      exact ⟨_, rfl, owns_vals HR.out (by omega), HW.out⟩

end Go.Proofs.YtmcblhgpcgnaoaaGreatDoor


namespace Go.Proofs.YtmcblhgpcgnaoaaGreatDoor
open Go.RowKit

theorem below_put {B : Nat} {a w : World} (h : Below B a w) (enc : Gp → Value) {blk : Nat} (hb : B ≤ blk) (off : Nat) (d : Array Gp) : Below B a (Sort.putRow enc w blk off d) :=
  ⟨h.os, h.tape, h.output, by rw [Sort.size_putRow]; exact h.size, fun k hk => by
    rw [← h.block k hk]
    show (w.heap.modify blk _)[k]? = _
    rw [Array.getElem?_modify, if_neg (by omega)]⟩

theorem get_bang {gs : List Gp} {j : Nat} {x : Gp} (h : gs[j]? = some x) : gs.toArray[j]! = x := by
  obtain ⟨hj, e⟩ := List.getElem?_eq_some_iff.1 h
  rw [getElem!_pos _ j (by simpa using hj)]
  simpa using e

theorem holds_of {w : World} {b : Nat} {gs : List Gp} (hc : ∀ j x, (gs.map encG)[j]? = some x → w.cell? ⟨b, j, none⟩ = some x) (hf : ∀ j, w.frozen? ⟨b, j, none⟩ = false) : Sort.Holds encG w b 0 gs.toArray := by
  intro j hj
  have hj' : j < gs.length := by simpa using hj
  refine ⟨?_, by rw [Nat.zero_add]; exact hf j⟩
  rw [Nat.zero_add]
  refine hc j _ ?_
  rw [List.getElem?_map, List.getElem?_eq_getElem hj', getElem!_pos _ j hj]
  simp

theorem fold_mem (cf : Gp → Gp → Int) : ∀ (r : List Gp) (x : Gp), r.foldl (stepG cf) x ∈ x :: r
  | [], x => List.mem_cons_self ..
  | y :: r, x => by
    have h := fold_mem cf r (stepG cf x y)
    rw [List.foldl_cons]
    rcases List.mem_cons.1 h with h | h
    · rw [h]
      unfold stepG
      split
      · exact List.mem_cons_of_mem _ (List.mem_cons_self ..)
      · exact List.mem_cons_self ..
    · exact List.mem_cons_of_mem _ (List.mem_cons_of_mem _ h)

set_option maxHeartbeats 800000 in
theorem Del_none (a : Option Addr) (c : Nat) (fv : Value) (w : World) :
    Calls Tryz.prog 229 #[.slice a 0 c, fv] w fun e w' => e = .returned (.slice a 0 c) ∧ w = w' := by
  have c0 := AnyE.slices_IndexFunc_empty (P := Tryz.prog) (ρ := delL_ren) { delL with } a c fv w
  change Calls Tryz.prog 267 _ _ _ at c0
  go_enter Tryz.func229, Tryz.ntmps229
  go_wp2_with (go_at_call 267; refine c0.mono ?_; rintro e w' ⟨rfl, rfl⟩)
  go_ret
  exact ⟨rfl, rfl⟩

theorem Del_any (n : Int) (B b c m : Nat) (gs : List Gp) (w : World) (hm : gs.length = m) (hm1 : m ≤ 481) (hc : m ≤ c) (hcells : ∀ j x, (gs.map encG)[j]? = some x → w.cell? ⟨b, j, none⟩ = some x) (hfr : ∀ j, w.frozen? ⟨b, j, none⟩ = false) (hB : w.cell? ⟨B, 0, none⟩ = some (.int .i64 n)) (hne : B ≠ b) :
    Calls Tryz.prog 229 #[.slice (some ⟨b, 0, none⟩) m c, .func (.func 230) #[] #[.pointer (some ⟨B, 0, none⟩)]] w
      fun e w' => e = .returned (.slice (some ⟨b, 0, none⟩) (bigs gs n).length c) ∧ (∀ (j : Nat) (x : Gp), (bigs gs n)[j]? = some x → w'.cell? ⟨b, 0 + j, none⟩ = some (encG x)) ∧ w'.cell? ⟨B, 0, none⟩ = some (.int .i64 n) ∧ Below b w w' := by
  have hH := holds_of hcells hfr
  have hsz : gs.toArray.size = m := by simpa using hm
  have hBl := World.block_lt_of_cell? _ _ hB
  have eg : ∀ args w, (callFunc 230 args).run Tryz.prog w = .ok (.enter 230 args) w := enters_of Tryz.func230 (by kernel_rfl) rfl
  have hP : PredAt Tryz.prog 230 #[.pointer (some ⟨B, 0, none⟩)] encG (fun z => decide (((numG z).2 : Int) < n)) w :=
    fun W x hb => small_any x n B W ((hb.cell (p := ⟨B, 0, none⟩) hBl).trans hB)
  have hO : PredOver Tryz.prog 230 #[.pointer (some ⟨B, 0, none⟩)] encG (fun z => decide (((numG z).2 : Int) < n)) b 0 gs.toArray.size w :=
    fun k os dk x _ => small_any x n B _ (by
      unfold sortWorld
      rw [Sort.cell?_grow _ _ _ (by show B < (Sort.putRow _ _ _ _ _).heap.size; rw [Sort.size_putRow]; exact hBl), Sort.cell?_putRow_other _ _ b 0 _ _ (Or.inl hne)]
      exact hB)
  have h := AnyE.slices_DeleteFunc (P := Tryz.prog) (ρ := delL_ren) delL encG (fun _ => rfl) (fun z => decide (((numG z).2 : Int) < n)) 230 #[.pointer (some ⟨B, 0, none⟩)] eg zeroG Tryz.zeroValue93 b 0 c gs.toArray w hP hO hH (by omega) (by omega)
  change Calls Tryz.prog 229 _ _ _ at h
  rw [hsz] at h
  refine h.mono ?_
  rintro e w' ⟨rfl, q, rfl⟩
  have hk : (bigs gs n).length ≤ m := by rw [← hm]; exact List.length_filter_le _ _
  refine ⟨rfl, fun j x hj => ?_, ?_, below_put (show Below b w (Sort.ahead w q) from ⟨rfl, rfl, rfl, Nat.le_refl _, fun _ _ => rfl⟩) encG (Nat.le_refl _) 0 _⟩
  · have hjl := (List.getElem?_eq_some_iff.1 hj).1
    have hl : (bigs gs n ++ List.replicate (m - (bigs gs n).length) zeroG).toArray.size = gs.toArray.size := by simp; omega
    refine (Sort.cell?_putRow encG (Sort.ahead w q) b 0 gs.toArray _ (Sort.holds_ahead encG w q b 0 _ hH) hl j (by rw [hl]; simp; omega)).trans ?_
    have e : (bigs gs n ++ List.replicate (m - (bigs gs n).length) zeroG)[j]? = some x := by rw [List.getElem?_append_left hjl]; exact hj
    exact congrArg (fun z => some (encG z)) (get_bang e)
  · rw [Sort.cell?_putRow_other _ _ b 0 _ _ (Or.inl hne)]
    exact hB

set_option maxRecDepth 100000 in
set_option maxHeartbeats 1600000 in
theorem one_any (g : Nat) (cf : Gp → Gp → Int) (hc : Cmps g cf) (eg : ∀ args w, (callFunc g args).run Tryz.prog w = .ok (.enter g args) w) (sel : List (Nat × Nat) → Nat → Option (Nat × Nat)) (hsel : Picks sel cf)
    (ao : Option Addr) (len cap : Nat) (zs : List Int) (n p q : Int) (w : World) (hA : Arg w ao len cap zs) (hp : -9223372036854775808 ≤ p ∧ p ≤ 9223372036854775807) (hq : -9223372036854775808 ≤ q ∧ q ≤ 9223372036854775807) :
    Calls Tryz.prog 181 #[.slice ao len cap, .int .i64 n, .int .i64 p, .int .i64 q, .func (.func g) #[] #[]] w
      (HandedRun w.heap.size w (pickOut (gapErr len n p q) (sel (downOut zs p q) n.toNat) n.toNat) (pickErr (gapErr len n p q) (sel (downOut zs p q) n.toNat))) := by
  have HB0 : Hid (Below w.heap.size w (w.alloc (.cells #[.int .i64 n] 3))) := Lib.hid ((Below.refl _ _).alloc (Nat.le_refl _) _)
  have c := cgaps_any ao len cap zs n p q _ (hA.later HB0.out) hp hq
  have HR := Lib.hid (Rise.pairs (down_rise zs p q))
  have HM := Lib.hid (down_bound (zs := zs) (lo := p) (hi := q))
  have hlen := down_length zs p q
  have hok := gap_ok (len := len) (n := n) (lo := p) (hi := q)
  have hcell : (w.alloc (.cells #[.int .i64 n] 3)).cell? ⟨w.heap.size, 0, none⟩ = some (.int .i64 n) := by simp
  have hsize : (w.alloc (.cells #[.int .i64 n] 3)).heap.size = w.heap.size + 1 := by simp
  have HC := Lib.hid hc
  have HS := Lib.hid hsel
  clear hA hc hsel
  generalize downOut zs p q = l at *
  generalize gapErr len n p q = E at *
  by_cases hE : E = 0
  · obtain ⟨hn1, hn2⟩ := hok hE
    obtain ⟨k, hk⟩ : ∃ k : Nat, n = k := ⟨n.toNat, by omega⟩
    subst hk
    rw [if_pos hE, hE] at c
    rw [hE]
    rw [show Int.toNat (k : Int) = k by omega]
    have hk1 : 1 ≤ k := by omega
    clear hE hok hp hq
    go_enter Tryz.func181, Tryz.ntmps181
    go_wp2_with fail
    refine c.mono ?_
    rintro e w2 ⟨v1, xs, rfl, hf1, hs1, hb1⟩
    obtain ⟨gs, g1, g2⟩ := gps_of hs1 (fun x hx => ⟨(HM.out x hx).1, (HM.out x hx).2.1⟩)
    have HG2 := Lib.hid g2
    have hB2 := (hb1.cell (p := ⟨w.heap.size, 0, none⟩) (by rw [hsize]; show w.heap.size < _; omega)).trans hcell
    have HB2 : Hid (Below w.heap.size w w2) := Lib.hid (HB0.out.trans (hb1.mono (by rw [hsize]; omega)))
    have hsel := HS.out gs k (by rw [g2]; exact HR.out)
    rw [g2] at hsel
    have HSL := Lib.hid hsel
    clear hsel
    have hgl : gs.length ≤ 481 := by
      have : (gs.map numG).length = l.length := by rw [g2]
      rw [List.length_map] at this
      omega
    rw [hsize] at hf1
    clear hs1 hb1 c hcell g2 hlen
    by_cases h0 : gs = []
    · subst h0
      have HP : Hid (pickOut 0 (sel l k) k = (0, 0) ∧ pickErr 0 (sel l k) = 6) := Lib.hid (by rw [show sel l k = none from HSL.out]; exact ⟨rfl, rfl⟩)
      rw [← g1] at hf1
      obtain ⟨ao1, c1, hv1, _, _, _⟩ := hf1
      rw [hv1]
      have cD := Del_none ao1 c1 (.func (.func 230) #[] #[.pointer (some ⟨w.heap.size, 0, none⟩)]) w2
      clear hv1 g1 hgl
      simp only [List.map_nil, List.length_nil]
      go_wp2_with fail
      refine cD.mono ?_
      rintro e w3 ⟨rfl, rfl⟩
      go_wp2_with fail
      go_ret2
      rw [HP.out.1, HP.out.2]
      exact ⟨0, 0, rfl, fi_zero, fi_zero, HB2.out⟩
    · obtain ⟨b, c2, hv1, hcap, hO⟩ := ownV_of_fresh (w0 := w2) hf1 (Below.refl _ _) (by rw [← g1]; simpa using h0)
      have hbge := hO.2.2.1
      rw [← g1, List.length_map] at hv1 hcap
      have cD := Del_any k w.heap.size b c2 gs.length gs w2 rfl hgl hcap (by rw [g1]; exact hO.1) hO.2.1 hB2 (by omega)
      rw [hv1]
      have HGE : Hid (w.heap.size ≤ b) := Lib.hid (by omega)
      have HBG := Lib.hid (fun x hx => (HM.out (numG x) (by rw [← HG2.out]; exact List.mem_map_of_mem (f := numG) hx)).1 : ∀ x ∈ gs, (numG x).1 + (numG x).2 ≤ 480)
      have hbl : (bigs gs k).length ≤ 481 := Nat.le_trans (List.length_filter_le _ _) hgl
      generalize gs.length = m at cD ⊢
      clear hv1 hcap hO hf1 g1 hbge hgl hB2 hsize
      go_wp2_with fail
      refine cD.mono ?_
      rintro e w3 ⟨rfl, hc3, hB3, hb3⟩
      have HB3 : Hid (Below w.heap.size w w3) := Lib.hid (HB2.out.trans (hb3.mono HGE.out))
      clear hb3 cD
      have hsel := HSL.out
      clear HSL
      cases hbs : bigs gs k with
      | nil =>
        rw [hbs] at hsel
        have HP : Hid (pickOut 0 (sel l k) k = (0, 0) ∧ pickErr 0 (sel l k) = 6) := Lib.hid (by rw [show sel l k = none from hsel]; exact ⟨rfl, rfl⟩)
        clear hsel hc3 hB3 hbs hbl
        simp only [List.length_nil]
        go_wp2_with fail
        go_ret2
        rw [HP.out.1, HP.out.2]
        exact ⟨0, 0, rfl, fi_zero, fi_zero, HB3.out⟩
      | cons x r =>
        rw [hbs] at hsel hc3
        obtain ⟨z, hz⟩ : ∃ z, z = r.foldl (stepG cf) x := ⟨_, rfl⟩
        have hsel : sel l k = some (numG (r.foldl (stepG cf) x)) := hsel
        rw [← hz] at hsel
        have HP : Hid (pickOut 0 (sel l k) k = ((numG z).1, k) ∧ pickErr 0 (sel l k) = 0) := Lib.hid (by rw [hsel]; exact ⟨rfl, rfl⟩)
        have hzm : z ∈ bigs gs k := by rw [hbs, hz]; exact fold_mem cf r x
        have hzk : k ≤ (numG z).2 := by
          have := (List.mem_filter.1 hzm).2
          simp at this
          omega
        have hzb := HBG.out z (List.mem_filter.1 hzm).1
        have hlen3 : (x :: r).length ≤ 481 := by
          rw [← hbs]
          exact hbl
        obtain ⟨u, v, cC⟩ := Cut_any _ _ _ _ k (gp_fst z) (gp_snd z) hk1 hzk hzb
        have cM : ∀ q, Calls Tryz.prog 232 #[.slice (some ⟨b, 0, none⟩) (x :: r).length c2, .func (.func g) #[] #[]] (w3.drewN q) fun e w' => e = .returned (encG z) ∧ w' = w3.drewN q := fun q =>
          (Min_any g cf HC.out eg b 0 c2 _ x r (w3.drewN q) rfl hlen3 hc3).mono (by rintro e w' ⟨rfl, rfl⟩; exact ⟨by rw [hz], rfl⟩)
        have hl0 : (((x :: r).length : Int) == 0) = false := by simp; omega
        have hzf : FI (floatOfInt .f64 ((numG z).1 : Int)) ((numG z).1 : Int) := fi_ofInt _ (by omega)
        have hkf : FI (floatOfInt .f64 (k : Int)) (k : Int) := fi_ofInt _ (by omega)
        have HZF := Lib.hid hzf
        have HKF := Lib.hid hkf
        generalize (x :: r).length = m3 at *
        unfold encG at cM
        clear hsel hc3 hbs hbl hz hzm hzk hzb hlen3 hzf hkf
        go_wp2_with fail
        go_quiet (first | (go_at_call 232; refine Calls.quiet_of_same (cM _)) | (go_at_call 231; refine Calls.quiet_of_same (cC _)))
        go_wp2_with fail
        go_ret2
        rw [HP.out.1, HP.out.2]
        exact ⟨_, _, rfl, HZF.out, HKF.out, below_drewN HB3.out _⟩
  · have hE' := hE
    rw [if_neg hE] at c
    have HP : Hid (pickOut E (sel l n.toNat) n.toNat = (0, 0) ∧ pickErr E (sel l n.toNat) = E) := Lib.hid ⟨by unfold pickOut; rw [if_neg hE], by unfold pickErr; rw [if_neg hE]⟩
    rw [HP.out.1, HP.out.2]
    have hne : (E == 0) = false := by simp; exact hE
    clear hE hE' hok hp hq hlen
    go_enter Tryz.func181, Tryz.ntmps181
    go_wp2_with fail
    refine c.mono ?_
    rintro e w2 ⟨v1, xs, rfl, hf1, hs1, hb1⟩
    have HB2 : Hid (Below w.heap.size w w2) := Lib.hid (HB0.out.trans (hb1.mono (by rw [hsize]; omega)))
    clear hf1 hs1 hb1 c hcell hsize
    go_wp2_with fail
    go_ret2
    exact ⟨0, 0, rfl, fi_zero, fi_zero, HB2.out⟩

theorem cTight_any (ao : Option Addr) (len cap : Nat) (zs : List Int) (n p q : Int) (w : World) (hA : Arg w ao len cap zs) (_hn : -9223372036854775808 ≤ n ∧ n ≤ 9223372036854775807) (hp : -9223372036854775808 ≤ p ∧ p ≤ 9223372036854775807) (hq : -9223372036854775808 ≤ q ∧ q ≤ 9223372036854775807) :
    Calls Tryz.prog 132 #[.slice ao len cap, .int .i64 n, .int .i64 p, .int .i64 q] w
      (HandedRun w.heap.size w (pickOut (gapErr len n p q) (tightGap (downOut zs p q) n.toNat) n.toNat) (pickErr (gapErr len n p q) (tightGap (downOut zs p q) n.toNat))) := by
  have c := one_any 182 byCount tight_cmp (enters_of Tryz.func182 (by kernel_rfl) rfl) tightGap tight_picks ao len cap zs n p q w hA hp hq
  generalize pickOut (gapErr len n p q) (tightGap (downOut zs p q) n.toNat) n.toNat = X at *
  generalize pickErr (gapErr len n p q) (tightGap (downOut zs p q) n.toNat) = E at *
  clear hA hp hq
  go_enter Tryz.func132, Tryz.ntmps132
  go_wp2_with fail
  refine c.mono ?_
  rintro e w2 ⟨x, y, rfl, fx, fy, hb⟩
  have HX := Lib.hid (And.intro fx (And.intro fy hb))
  clear fx fy hb c
  go_wp2_with fail
  go_ret2
  exact ⟨_, _, rfl, HX.out.1, HX.out.2.1, HX.out.2.2⟩

end Go.Proofs.YtmcblhgpcgnaoaaGreatDoor


