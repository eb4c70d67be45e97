/-
  Proved here: what the library's merge of gaps does (slices.symMergeCmpFunc) with any two sorted neighbouring parts, the comparison a plain function of two gaps.
  The conditions stand at each theorem.
-/
import Derived.Test.YtfhfjnfejcggcaaSym
import Derived.Deep.Cut
namespace Go.Proofs.Ytfhfjnfejcggcaa
open Go.RowKit
open Go.Sort (swp SWO PermIn SortedIn size_swp insertionSort)

/-- Between which two the place is sought from which on the parts are turned round. -/
def Ends (a m b mid lo hi : Nat) : Prop := (lo = a ∧ hi = m ∧ m ≤ mid) ∨ (lo + b = mid + m ∧ hi = mid ∧ mid < m)

set_option maxRecDepth 100000 in
set_option maxHeartbeats 4000000 in
theorem sym_gen (g : Nat) (cf : Gp → Gp → Int) (hc : Cmps g cf) (eg : ∀ args w, (callFunc g args).run Try.prog w = .ok (.enter g args) w) (hO : SWO (ltOf cf)) (Rel : Gp → Gp → Prop) (blk off cap N a m b : Nat) (d0 d : Array Gp) (w0 w : World) (R : Row1 encG w0 blk off d0) (hs0 : d0.size = N) (hs : d.size = N) (S : SW encG w0 blk off d w)
    (ham : a + 1 < m) (hmb : m + 1 < b) (hb : b ≤ N) (hN : N ≤ 481) (h1 : SortedIn (ltOf cf) a m d) (h2 : SortedIn (ltOf cf) m b d) (hst : Stab (ltOf cf) Rel d)
    (IH : ∀ (a' m' b' : Nat) (d' : Array Gp) (w' : World), b' - a' < b - a → a' < m' → m' < b' → b' ≤ N → d'.size = N → SW encG w0 blk off d' w' → SortedIn (ltOf cf) a' m' d' → SortedIn (ltOf cf) m' b' d' → Stab (ltOf cf) Rel d' → Calls Try.prog 59 #[.slice (some ⟨blk, off, none⟩) N cap, .int .i64 a', .int .i64 m', .int .i64 b', .func (.func g) #[] #[]] w' (Merged cf Rel w0 blk off a' b' d')) :
    Calls Try.prog 59 #[.slice (some ⟨blk, off, none⟩) N cap, .int .i64 a, .int .i64 m, .int .i64 b, .func (.func g) #[] #[]] w (Merged cf Rel w0 blk off a b d) := by
  have hcl0 := R.hO.cells
  simp only [Value.cells] at hcl0
  have hst0 := R.hO.store Try.prog
  have S0 : Hid (SW encG w0 blk off d w) := S
  have HC := Lib.hid hc
  have HO := Lib.hid hO
  have ht : ((m : Int) - (a : Int) == 1) = false := by simp; omega
  have ht2 : ((b : Int) - (m : Int) == 1) = false := by simp; omega
  obtain ⟨mid, hmid⟩ : ∃ mid : Nat, ((a : Int) + (b : Int)) / 2 = (mid : Int) := ⟨(a + b) / 2, by omega⟩
  have hmd : a + b ≤ 2 * mid + 1 ∧ 2 * mid ≤ a + b := by omega
  obtain ⟨hmd1, hmd2⟩ := hmd
  have HIH := Lib.hid IH
  have HHALF : Hid (∀ (lo hi s e : Nat), Ends a m b mid lo hi → lo ≤ s → s ≤ hi → s + e = mid + m → (s = lo ∨ ltOf cf d[e]! d[s - 1]! = false) → (s = hi ∨ ltOf cf d[e - 1]! d[s]! = true) → ∀ D, Rot s m e d D → Halved (ltOf cf) Rel a s mid e b D) :=
    Lib.hid (fun lo hi s e hE h3 h4 h5 h6 h7 D hr => halved hO (d := d) (by omega) h5 (by rcases hE with hE | hE <;> omega) (by rcases hE with hE | hE <;> omega) (by rcases hE with hE | hE <;> omega) (by rcases hE with hE | hE <;> omega) (by rcases hE with hE | hE <;> omega) (by rcases hE with hE | hE <;> omega) h1 h2 hst
      (fun f1 f2 => by rcases h6 with h6 | h6; · rcases hE with hE | hE <;> omega
                       exact h6) (fun f1 f2 => by rcases h7 with h7 | h7; · rcases hE with hE | hE <;> omega
                                                  exact h7) hr)
  have HROT : Hid (∀ (s e : Nat) (wr : World), SW encG w0 blk off d wr → s < m → m < e → e ≤ N → Calls Try.prog 71 #[.slice (some ⟨blk, off, none⟩) N cap, .int .i64 s, .int .i64 m, .int .i64 e, .func (.func g) #[] #[]] wr fun e' w' => e' = .returned (.tuple #[]) ∧ ∃ D, Rot s m e d D ∧ PermIn s e d D ∧ SW encG w0 blk off D w') :=
    Lib.hid (fun s e wr hS h3 h4 h5 => rotate_walk g blk off cap N s m e d0 d w0 wr R hs0 hs hS h3 h4 h5 hN)
  clear S hc h1 h2 hst hO IH
  go_enter Try.func59, Try.ntmps59
  go_upto_if 140 with fail
  clear ht ht2 hmid
  go_cut [20, 21] from 25 (fun s20 s21 wx => ∃ lo hi : Nat, s20 = .int .i64 lo ∧ s21 = .int .i64 hi ∧ Hid (Ends a m b mid lo hi) ∧ wx = w)
  case first =>
    by_cases hgt : mid < m
    · have z1 : (mid : Int) < (m : Int) := by omega
      go_wp2_with fail
      go_meet
      case rel => exact ⟨mid + m - b, mid, by congr 1; omega, rfl, Lib.hid (Or.inr ⟨by omega, rfl, hgt⟩), rfl⟩
    · have z1 : ¬ (mid : Int) < (m : Int) := by omega
      go_wp2_with fail
      go_meet
      case rel => exact ⟨a, m, rfl, rfl, Lib.hid (Or.inl ⟨rfl, rfl, by omega⟩), rfl⟩
  case rest =>
    obtain ⟨lo, hi, rfl, rfl, HE, rfl⟩ := hcut
    have hlh : lo ≤ hi ∧ hi ≤ m ∧ hi ≤ mid ∧ a ≤ lo ∧ mid + m ≤ lo + b := by rcases HE.out with h | h <;> omega
    obtain ⟨hlh1, hlh2, hlh3, hlh4, hlh5⟩ := hlh
    go_wp2_with fail
    go_loopw [20, 21] (fun sv rv wr => ∃ s r : Nat, sv = .int .i64 s ∧ rv = .int .i64 r ∧ lo ≤ s ∧ s ≤ r ∧ r ≤ hi ∧ Hid (s = lo ∨ ltOf cf d[mid + m - s]! d[s - 1]! = false) ∧ Hid (r = hi ∨ ltOf cf d[mid + m - 1 - r]! d[r]! = true) ∧ Hid (SW encG w0 blk off d wr)) (fun sv rv _ => (intOf rv).toNat - (intOf sv).toNat)
    case atStart => exact ⟨lo, hi, rfl, rfl, Nat.le_refl _, hlh1, Nat.le_refl _, Lib.hid (Or.inl rfl), Lib.hid (Or.inl rfl), S0⟩
    case round =>
      clear S0
      obtain ⟨s, r, rfl, rfl, s1, sr, r1, HI, HJ, S1⟩ := hrel
      by_cases hlt : s < r
      · have hltz : (s : Int) < (r : Int) := by omega
        obtain ⟨c, hh⟩ : ∃ c : Nat, ((s : Int) + (r : Int)) / 2 = (c : Int) := ⟨(s + r) / 2, by omega⟩
        have h1 : s ≤ c ∧ c < r := by omega
        obtain ⟨h1, h2⟩ := h1
        go_wp2_with fail
        clear hh
        obtain ⟨p, hp⟩ : ∃ p, p = mid + m - 1 - c := ⟨_, rfl⟩
        have ea : ((mid : Int) + (m : Int) - 1 - (c : Int)).toNat = p := by omega
        have pa : (0 : Int) ≤ (mid : Int) + (m : Int) - 1 - (c : Int) := by omega
        have ba : (mid : Int) + (m : Int) - 1 - (c : Int) < (N : Int) := by omega
        have ra : IntKind.i64.wrap ((mid : Int) + (m : Int) - 1 - (c : Int)) = (mid : Int) + (m : Int) - 1 - (c : Int) := by rw [IntKind.wrap_i64]; omega
        have HP := Lib.hid hp
        have hpn : p < N := by omega
        clear hp
        cases hlv : ltOf cf d[p]! d[c]! with
        | false =>
          obtain ⟨x, hx⟩ : ∃ x, x = d[p]! := ⟨_, rfl⟩
          obtain ⟨y, hy⟩ : ∃ x, x = d[c]! := ⟨_, rfl⟩
          have c1 := S1.out.c1 R (by omega) (p) (by omega)
          have c2 := S1.out.c1 R (by omega) (c) (by omega)
          rw [← hx] at c1
          rw [← hy] at c2
          have cc : ∀ q, Calls Try.prog g #[encG x, encG y] (wr.drewN q) fun e w' => e = .returned (.int .i64 (cf x y)) ∧ w' = wr.drewN q := fun q => (HC.out x y _).mono (by rintro e w' ⟨rfl, rfl⟩; exact ⟨rfl, rfl⟩)
          have hv : ¬ cf x y < 0 := by rw [hx, hy]; exact of_decide_eq_false hlv
          have hd : decide (cf x y < 0) = false := decide_eq_false hv
          have HLV := Lib.hid hlv
          clear hx hy hlv
          go_quiet (first | (go_at_fn g; refine Calls.quiet_of_same (cc _)))
          have S2 : Hid (SW encG w0 blk off d (wr.drewN nq)) := Lib.hid (S1.out.drewN nq)
          clear c1 c2 cc S1
          generalize wr.drewN nq = w2 at S2 ⊢
          clear nq
          clear ea pa ba ra
          go_wp2_with fail
          go_roundw
          case rel => exact ⟨c + 1, r, by go_num, rfl, by omega, by omega, r1, Lib.hid (Or.inr (by rw [show c + 1 - 1 = c by omega, show mid + m - (c + 1) = p by rw [HP.out]; omega]; exact HLV.out)), HJ, S2⟩
          case measure => simp [intOf]; omega
        | true =>
          obtain ⟨x, hx⟩ : ∃ x, x = d[p]! := ⟨_, rfl⟩
          obtain ⟨y, hy⟩ : ∃ x, x = d[c]! := ⟨_, rfl⟩
          have c1 := S1.out.c1 R (by omega) (p) (by omega)
          have c2 := S1.out.c1 R (by omega) (c) (by omega)
          rw [← hx] at c1
          rw [← hy] at c2
          have cc : ∀ q, Calls Try.prog g #[encG x, encG y] (wr.drewN q) fun e w' => e = .returned (.int .i64 (cf x y)) ∧ w' = wr.drewN q := fun q => (HC.out x y _).mono (by rintro e w' ⟨rfl, rfl⟩; exact ⟨rfl, rfl⟩)
          have hv : cf x y < 0 := by rw [hx, hy]; exact of_decide_eq_true hlv
          have hd : decide (cf x y < 0) = true := decide_eq_true hv
          have HLV := Lib.hid hlv
          clear hx hy hlv
          go_quiet (first | (go_at_fn g; refine Calls.quiet_of_same (cc _)))
          have S2 : Hid (SW encG w0 blk off d (wr.drewN nq)) := Lib.hid (S1.out.drewN nq)
          clear c1 c2 cc S1
          generalize wr.drewN nq = w2 at S2 ⊢
          clear nq
          clear ea pa ba ra
          go_wp2_with fail
          go_roundw
          case rel => exact ⟨s, c, rfl, rfl, s1, h1, by omega, HI, Lib.hid (Or.inr (by rw [← HP.out]; exact HLV.out)), S2⟩
          case measure => simp [intOf]; omega
      · have hsr : s = r := by omega
        subst hsr
        obtain ⟨e, he⟩ : ∃ e : Nat, (mid : Int) + (m : Int) - (s : Int) = (e : Int) := ⟨mid + m - s, by omega⟩
        have e1 : s + e = mid + m := by omega
        have HF : Hid (∀ D, Rot s m e d D → Halved (ltOf cf) Rel a s mid e b D) := Lib.hid (HHALF.out lo hi s e HE.out s1 r1 e1 (by rw [show e = mid + m - s by omega]; exact HI.out) (by rw [show e - 1 = mid + m - 1 - s by omega]; exact HJ.out))
        have e2 : a ≤ s ∧ s ≤ m ∧ s ≤ mid ∧ m ≤ e ∧ mid ≤ e ∧ e ≤ b := by rcases HE.out with h | h <;> omega
        obtain ⟨e2, e3, e4, e5, e6, e7⟩ := e2
        clear HI HJ HHALF HE hlt sr s1 r1 hlh1 hlh2 hlh3 hlh4 hlh5
        go_upto_region 39 with fail
        go_cut [185] from 25 (fun sb wx => sb = .bool (decide (s < m) && decide (m < e)) ∧ wx = wr)
        case first =>
          by_cases hA : s < m
          · have zA : (s : Int) < (m : Int) := by omega
            by_cases hB : m < e
            · have zB : (m : Int) < (e : Int) := by omega
              go_wp2_with fail
              go_meet
              case rel => exact ⟨by rw [decide_eq_true hA, decide_eq_true hB]; rfl, rfl⟩
            · have zB : ¬ (m : Int) < (e : Int) := by omega
              go_wp2_with fail
              go_meet
              case rel => exact ⟨by rw [decide_eq_false hB, Bool.and_false], rfl⟩
          · have zA : ¬ (s : Int) < (m : Int) := by omega
            go_wp2_with fail
            go_meet
            case rel => exact ⟨by rw [decide_eq_false hA]; rfl, rfl⟩
        case rest =>
          as_aux_lemma =>
            obtain ⟨rfl, rfl⟩ := hcut
            clear he
            go_upto_if 185 with fail
            go_cut [] from 25 (fun wx => ∃ D, Hid (Halved (ltOf cf) Rel a s mid e b D ∧ PermIn a b d D) ∧ Hid (SW encG w0 blk off D wx))
            case first =>
              cases hbb : (decide (s < m) && decide (m < e)) with
              | true =>
                simp only [Bool.and_eq_true, decide_eq_true_eq] at hbb
                have cR := HROT.out s e _ S1.out hbb.1 hbb.2 (by omega)
                clear hbb
                go_wp2_with fail
                refine cR.mono ?_
                rintro e' w2 ⟨rfl, D, hr, hpm, hS2⟩
                have HD : Hid (Halved (ltOf cf) Rel a s mid e b D ∧ PermIn a b d D) := Lib.hid ⟨HF.out D hr, Sort.permIn_mono _ _ _ _ _ _ e2 e7 (by omega) hpm⟩
                have S2 := Lib.hid hS2
                clear cR hr hpm hS2
                go_wp2_with fail
                go_meet
                case rel => exact ⟨D, HD, S2⟩
              | false =>
                have HD : Hid (Halved (ltOf cf) Rel a s mid e b d ∧ PermIn a b d d) := Lib.hid ⟨HF.out d (by
                  simp only [Bool.and_eq_false_iff, decide_eq_false_iff_not] at hbb
                  rcases hbb with h | h
                  · rw [show s = m by omega]; exact (rot_none d m e (by omega)).1
                  · rw [show e = m by omega]; exact (rot_none d s m (by omega)).2), Sort.permIn_refl _ _ _⟩
                clear hbb
                go_wp2_with fail
                go_meet
                case rel => exact ⟨d, HD, S1⟩
            case rest =>
              as_aux_lemma =>
                obtain ⟨D, HD, S2⟩ := hcut
                clear S1 HF HROT
                go_upto_region 41 with fail
                go_cut [199] from 25 (fun sb wx => sb = .bool (decide (a < s) && decide (s < mid)) ∧ wx = wc)
                case first =>
                  by_cases hA : a < s
                  · have zA : (a : Int) < (s : Int) := by omega
                    by_cases hB : s < mid
                    · have zB : (s : Int) < (mid : Int) := by omega
                      go_wp2_with fail
                      go_meet
                      case rel => exact ⟨by rw [decide_eq_true hA, decide_eq_true hB]; rfl, rfl⟩
                    · have zB : ¬ (s : Int) < (mid : Int) := by omega
                      go_wp2_with fail
                      go_meet
                      case rel => exact ⟨by rw [decide_eq_false hB, Bool.and_false], rfl⟩
                  · have zA : ¬ (a : Int) < (s : Int) := by omega
                    go_wp2_with fail
                    go_meet
                    case rel => exact ⟨by rw [decide_eq_false hA]; rfl, rfl⟩
                case rest =>
                  as_aux_lemma =>
                    obtain ⟨rfl, rfl⟩ := hcut
                    go_upto_if 199 with fail
                    go_cut [] from 25 (fun wx => ∃ D2, Hid (PermIn a mid D D2 ∧ SortedIn (ltOf cf) a mid D2 ∧ Stab (ltOf cf) Rel D2) ∧ Hid (SW encG w0 blk off D2 wx))
                    case first =>
                      cases hbb : (decide (a < s) && decide (s < mid)) with
                      | true =>
                        simp only [Bool.and_eq_true, decide_eq_true_eq] at hbb
                        have cM := HIH.out a s mid D _ (by omega) hbb.1 hbb.2 (by omega) (by rw [HD.out.2.1]; exact hs) S2.out HD.out.1.2.1 HD.out.1.2.2.1 HD.out.1.1
                        clear hbb
                        go_wp2_with fail
                        refine cM.mono ?_
                        rintro e' w2 ⟨rfl, D2, p2, o2, t2, hS3⟩
                        have HD2 : Hid (PermIn a mid D D2 ∧ SortedIn (ltOf cf) a mid D2 ∧ Stab (ltOf cf) Rel D2) := Lib.hid ⟨p2, o2, t2⟩
                        have S3 := Lib.hid hS3
                        clear cM p2 o2 t2 hS3
                        go_wp2_with fail
                        go_meet
                        case rel => exact ⟨D2, HD2, S3⟩
                      | false =>
                        have HD2 : Hid (PermIn a mid D D ∧ SortedIn (ltOf cf) a mid D ∧ Stab (ltOf cf) Rel D) := Lib.hid ⟨Sort.permIn_refl _ _ _, by
                          simp only [Bool.and_eq_false_iff, decide_eq_false_iff_not] at hbb
                          rcases hbb with h | h
                          · have h' := HD.out.1.2.2.1
                            rwa [show s = a by omega] at h'
                          · have h' := HD.out.1.2.1
                            rwa [show s = mid by omega] at h', HD.out.1.1⟩
                        clear hbb
                        go_wp2_with fail
                        go_meet
                        case rel => exact ⟨D, HD2, S2⟩
                    case rest =>
                      as_aux_lemma =>
                        obtain ⟨D2, HD2, S3⟩ := hcut
                        clear S2
                        go_upto_region 43 with fail
                        go_cut [213] from 25 (fun sb wx => sb = .bool (decide (mid < e) && decide (e < b)) ∧ wx = wc)
                        case first =>
                          by_cases hA : mid < e
                          · have zA : (mid : Int) < (e : Int) := by omega
                            by_cases hB : e < b
                            · have zB : (e : Int) < (b : Int) := by omega
                              go_wp2_with fail
                              go_meet
                              case rel => exact ⟨by rw [decide_eq_true hA, decide_eq_true hB]; rfl, rfl⟩
                            · have zB : ¬ (e : Int) < (b : Int) := by omega
                              go_wp2_with fail
                              go_meet
                              case rel => exact ⟨by rw [decide_eq_false hB, Bool.and_false], rfl⟩
                          · have zA : ¬ (mid : Int) < (e : Int) := by omega
                            go_wp2_with fail
                            go_meet
                            case rel => exact ⟨by rw [decide_eq_false hA]; rfl, rfl⟩
                        case rest =>
                          as_aux_lemma =>
                            obtain ⟨rfl, rfl⟩ := hcut
                            have HS2 : Hid (SortedIn (ltOf cf) mid e D2 ∧ SortedIn (ltOf cf) e b D2) := Lib.hid ⟨sorted_same HD.out.1.2.2.2.1 (fun k k1 k2 => HD2.out.1.2.1 k (Or.inr k1)), sorted_same HD.out.1.2.2.2.2.1 (fun k k1 k2 => HD2.out.1.2.1 k (Or.inr (by omega)))⟩
                            have hz2 : D2.size = N := by rw [HD2.out.1.1, HD.out.2.1]; exact hs
                            have HG : Hid (∀ D3, PermIn mid b D2 D3 → SortedIn (ltOf cf) mid b D3 → PermIn a b d D3 ∧ SortedIn (ltOf cf) a b D3) := Lib.hid (fun D3 p3 o3 => by
                              have h := glue_halves (by omega) (by omega) (by rw [HD.out.2.1]; omega) HD.out.1.2.2.2.2.2 HD2.out.1 HD2.out.2.1 p3 o3
                              exact ⟨Sort.permIn_trans _ _ _ _ _ HD.out.2 h.1, h.2⟩)
                            cases hbb : (decide (mid < e) && decide (e < b)) with
                            | true =>
                              simp only [Bool.and_eq_true, decide_eq_true_eq] at hbb
                              have cM := HIH.out mid e b D2 _ (by omega) hbb.1 hbb.2 hb hz2 S3.out HS2.out.1 HS2.out.2 HD2.out.2.2
                              clear hbb hz2
                              go_wp2_with fail
                              refine cM.mono ?_
                              rintro e' w2 ⟨rfl, D3, p3, o3, t3, hS4⟩
                              have HEND : Hid ((PermIn a b d D3 ∧ SortedIn (ltOf cf) a b D3) ∧ Stab (ltOf cf) Rel D3 ∧ SW encG w0 blk off D3 w2) := Lib.hid ⟨HG.out D3 p3 o3, t3, hS4⟩
                              clear cM p3 o3 t3 hS4
                              go_wp2_with fail
                              go_end0
                              exact ⟨rfl, D3, HEND.out.1.1, HEND.out.1.2, HEND.out.2.1, HEND.out.2.2⟩
                            | false =>
                              have HEND : Hid (PermIn a b d D2 ∧ SortedIn (ltOf cf) a b D2) := Lib.hid (HG.out D2 (Sort.permIn_refl _ _ _) (by
                                simp only [Bool.and_eq_false_iff, decide_eq_false_iff_not] at hbb
                                rcases hbb with h | h
                                · have h' := HS2.out.2
                                  rwa [show e = mid by omega] at h'
                                · have h' := HS2.out.1
                                  rwa [show e = b by omega] at h'))
                              clear hbb hz2
                              go_wp2_with fail
                              go_end0
                              exact ⟨rfl, D2, HEND.out.1, HEND.out.2, HD2.out.2.2, S3.out⟩

theorem sym_any (g : Nat) (cf : Gp → Gp → Int) (hc : Cmps g cf) (eg : ∀ args w, (callFunc g args).run Try.prog w = .ok (.enter g args) w) (hO : SWO (ltOf cf)) (Rel : Gp → Gp → Prop) (blk off cap N : Nat) (d0 : Array Gp) (w0 : World) (R : Row1 encG w0 blk off d0) (hs0 : d0.size = N) (hN : N ≤ 481) :
    ∀ (k a m b : Nat) (d : Array Gp) (w : World), b - a ≤ k → a < m → m < b → b ≤ N → d.size = N → SW encG w0 blk off d w → SortedIn (ltOf cf) a m d → SortedIn (ltOf cf) m b d → Stab (ltOf cf) Rel d →
      Calls Try.prog 59 #[.slice (some ⟨blk, off, none⟩) N cap, .int .i64 a, .int .i64 m, .int .i64 b, .func (.func g) #[] #[]] w (Merged cf Rel w0 blk off a b d)
  | 0, a, m, b, d, w, hk, ham, hmb, _, _, _, _, _, _ => by omega
  | k + 1, a, m, b, d, w, hk, ham, hmb, hb, hs, S, h1, h2, hst => by
    by_cases c1 : m = a + 1
    · exact sym_left g cf hc eg hO Rel blk off cap N a m b d0 d w0 w R hs0 hs S c1 hmb hb hN h2 hst
    · by_cases c2 : b = m + 1
      · exact sym_right g cf hc eg hO Rel blk off cap N a m b d0 d w0 w R hs0 hs S (by omega) c2 hb hN h1 hst
      · exact sym_gen g cf hc eg hO Rel blk off cap N a m b d0 d w0 w R hs0 hs S (by omega) (by omega) hb hN h1 h2 hst
          (fun a' m' b' d' w' q1 q2 q3 q4 q5 q6 q7 q8 q9 => sym_any g cf hc eg hO Rel blk off cap N d0 w0 R hs0 hN k a' m' b' d' w' (by omega) q2 q3 q4 q5 q6 q7 q8 q9)

end Go.Proofs.Ytfhfjnfejcggcaa
