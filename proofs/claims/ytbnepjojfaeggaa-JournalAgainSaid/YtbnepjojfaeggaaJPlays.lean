/-
  Proved here: what JournalPlays answers, of a journal that answers as JournalOk and JournalGood say.
  The conditions stand at each theorem.
-/
import Derived.Test.YtbnepjojfaeggaaPad16
import Derived.WalkKit
import Derived.BigQuiet
import Derived.Deep.RegionWith
import Derived.StillTailTactics
namespace Go.Proofs.Ytbnepjojfaeggaa
open Go.RowKit
set_option linter.unusedVariables false
set_option linter.unusedSimpArgs false

theorem ListIs.under {w w' : World} {lo : Nat} {ao : Option Addr} {m : Nat} {ws : List (Int × List Int)} (h : ListIs w (fun k => k < lo) ao m ws) (hb : Below lo w w') : ListIs w' (fun k => k < lo) ao m ws := by
  obtain ⟨h1, h2, h3⟩ := h
  refine ⟨h1, h2, h3.imp_right ?_⟩
  rintro ⟨b, off, rfl, hg, hc⟩
  refine ⟨b, off, rfl, hg, fun j a zs hj => ?_⟩
  obtain ⟨c1, c2, ad, l, c, c3, hA, c4⟩ := hc j a zs hj
  refine ⟨by rw [cell_of_heap (p := ⟨b, off + 2 * j, none⟩) (hb.block b hg)]; exact c1, c2, ad, l, c, by rw [cell_of_heap (p := ⟨b, off + 2 * j + 1, none⟩) (hb.block b hg)]; exact c3, ?_, c4⟩
  obtain ⟨⟨q1, q2, q3, q4⟩, q5⟩ := hA
  refine ⟨⟨q1, q2, q3, ?_⟩, q5⟩
  rcases q4 with q4 | ⟨b', o', rfl, hz⟩
  · exact Or.inl q4
  · by_cases hl : l = 0
    · exact Or.inl hl
    · exact Or.inr ⟨b', o', rfl, fun i hi => by rw [cell_of_heap (p := ⟨b', o' + i, none⟩) (hb.block b' (c4 b' o' none rfl hl))]; exact hz i hi⟩

theorem ListIs.wis {w : World} {G : Nat → Prop} {ao : Option Addr} {m : Nat} {ws : List (Int × List Int)} (h : ListIs w G ao m ws) : WIs w ao m ws := by
  obtain ⟨h1, h2, h3⟩ := h
  refine ⟨h1, h2, h3.imp_right ?_⟩
  rintro ⟨b, off, rfl, hg, hc⟩
  refine ⟨b, off, rfl, fun j a zs hj => ?_⟩
  obtain ⟨c1, c2, ad, l, c, c3, hA, c4⟩ := hc j a zs hj
  exact ⟨by rw [Nat.mul_comm]; exact c1, c2, ad, l, c, by rw [Nat.mul_comm]; exact c3, hA⟩

/-- What the loop of JournalPlays carries: alive, or cut off. -/
def Plays (M : JM) (Q : JournalGood M) (dead : Bool) (d : DM) (s : M.S) (xs ys : List ByteArray) (k n : Nat) : Prop :=
  d.n = n ∧ ((dead = false ∧ ys = xs ∧ Q.Live d s xs k) ∨ (dead = true ∧ Q.Dead d s xs ys k))

/-- A game of JournalPlays behind at most i acts. -/
def PlayRel (M : JM) (JI : World → Addr → Addr → (Nat → Prop) → M.S → Prop) (Q : JournalGood M) (w : World) (g n : Nat) (a : Addr) (i : Nat) (wr : World) : Prop :=
  ∃ q O j F G na ma nc mc dead d s xs ys k, GI q O M JI wr w.heap.size g a j F G na ma n nc mc dead d s xs ys ∧ Plays M Q dead d s xs ys k n ∧ k ≤ i ∧ Below w.heap.size w wr
theorem PlayRel.next {M : JM} {JI : World → Addr → Addr → (Nat → Prop) → M.S → Prop} {Q : JournalGood M} {w wr w' : World} {q : Nat} {O : Option Obj} {g n nc mc : Nat} {a j : Addr} {F G : Nat → Prop} {na ma : Option Addr} {dead : Bool} {d : DM} {s : M.S} {xs ys : List ByteArray} {k i : Nat} (K : JournalOk M JI)
    (h : GI q O M JI wr w.heap.size g a j F G na ma n nc mc dead d s xs ys) (hp : Plays M Q dead d s xs ys k n) (hk : k ≤ i) (hb : Below w.heap.size w wr) (hw : Below wr.heap.size wr w') : PlayRel M JI Q w g n a i w' :=
  ⟨q, O, j, F, G, na, ma, nc, mc, dead, d, s, xs, ys, k, h.later K hw, hp, hk, hb.trans (hw.mono h.lo_le)⟩

theorem plays_fail {M : JM} {Q : JournalGood M} {dead : Bool} {d : DM} {s : M.S} {xs ys : List ByteArray} {k n : Nat} (x : Int) (h : Plays M Q dead d s xs ys k n) : Plays M Q dead (failed d x) s xs ys k n := by
  refine ⟨h.1, ?_⟩
  rcases h.2 with ⟨h1, h2, h3⟩ | ⟨h1, h2⟩
  · exact Or.inl ⟨h1, h2, Q.live_fail x h3⟩
  · exact Or.inr ⟨h1, Q.dead_fail x h2⟩
theorem plays_rec {M : JM} {Q : JournalGood M} {dead : Bool} {d : DM} {s : M.S} {xs ys : List ByteArray} {k n : Nat} (ks : List Int) (h : Plays M Q dead d s xs ys k n) : Q.Rec (restarted d ks) xs ys k := by
  rcases h.2 with ⟨h1, h2, h3⟩ | ⟨h1, h2⟩
  · rw [h2]; exact Q.live_restart ks h3
  · exact Q.dead_restart ks h2

theorem checkW_two (ws : List (Int × List Int)) (n : Int) : checkW ws n = 0 ∨ checkW ws n = 1 := by
  unfold checkW
  split
  · exact Or.inl rfl
  · split
    · exact Or.inr rfl
    · split
      · exact Or.inl rfl
      · exact Or.inr rfl
theorem plays_small {M : JM} {Q : JournalGood M} {dead : Bool} {d : DM} {s : M.S} {xs ys : List ByteArray} {k n : Nat} (h : Plays M Q dead d s xs ys k n) : smallD d := by
  rcases h.2 with ⟨h1, h2, h3⟩ | ⟨h1, h2⟩
  · exact (Q.live_small h3).1
  · exact (Q.dead_small h2).1
theorem plays_commit {M : JM} {Q : JournalGood M} {dead : Bool} {d : DM} {s : M.S} {xs ys : List ByteArray} {k n : Nat} (hk : k ≤ 1000) (h : Plays M Q dead d s xs ys k n) (ws : List (Int × List Int)) : ∃ d2 s2 e, M.commitP d s ws = (d2, s2, e) ∧ d2.n = n ∧
    ((dead = true ∧ e = 8 ∧ Plays M Q true d2 s2 xs ys k n) ∨ (dead = false ∧ e = 1 ∧ checkW ws n = 1 ∧ Plays M Q false d2 s2 xs ys k n) ∨
     (dead = false ∧ e = 0 ∧ checkW ws n = 0 ∧ ∃ k', k' ≤ k + 1 ∧ Plays M Q false d2 s2 (putS xs ws) (putS xs ws) k' n) ∨ (dead = false ∧ e = 8 ∧ checkW ws n = 0 ∧ ws ≠ [] ∧ Plays M Q true d2 s2 xs (putS xs ws) (k + 1) n)) := by
  obtain ⟨⟨d2, s2, e⟩, hC⟩ : ∃ r, M.commitP d s ws = r := ⟨_, rfl⟩
  refine ⟨d2, s2, e, hC, ?_⟩
  obtain ⟨hn, h⟩ := h
  subst hn
  rcases h with ⟨rfl, rfl, h⟩ | ⟨rfl, h⟩
  · by_cases hw : checkW ws d.n ≠ 0 ∨ ws = []
    · have hc := Q.commit_no h hk hw
      rw [hC] at hc
      simp only at hc
      obtain ⟨h1, h2, h3, h4⟩ := hc
      refine ⟨h2, ?_⟩
      by_cases h0 : checkW ws d.n = 0
      · have hws : ws = [] := hw.resolve_left (fun h => h h0)
        subst hws
        exact Or.inr (Or.inr (Or.inl ⟨rfl, by rw [h1, h0], h0, k, by omega, h2, Or.inl ⟨rfl, rfl, h4⟩⟩))
      · have h9 := (checkW_two ws d.n).resolve_left h0
        exact Or.inr (Or.inl ⟨rfl, by rw [h1, h9], h9, h2, Or.inl ⟨rfl, rfl, h4⟩⟩)
    · have h0 : checkW ws d.n = 0 := Classical.byContradiction fun hh => hw (Or.inl hh)
      have hne : ws ≠ [] := fun hh => hw (Or.inr hh)
      have hc := Q.commit_yes h hk h0 hne
      rw [hC] at hc
      simp only at hc
      obtain ⟨h2, h3 | h3⟩ := hc
      · exact ⟨h2, Or.inr (Or.inr (Or.inl ⟨rfl, h3.1, h0, k + 1, Nat.le_refl _, h2, Or.inl ⟨rfl, rfl, h3.2⟩⟩))⟩
      · exact ⟨h2, Or.inr (Or.inr (Or.inr ⟨rfl, h3.1, h0, hne, h2, Or.inr ⟨rfl, h3.2.2⟩⟩))⟩
  · have hc := Q.dead_commit (ws := ws) h
    rw [hC] at hc
    simp only at hc
    exact ⟨hc.2.1, Or.inl ⟨rfl, hc.1, hc.2.1, Or.inr ⟨rfl, hc.2.2⟩⟩⟩

theorem off_new {M : JM} {JI : World → Addr → Addr → (Nat → Prop) → M.S → Prop} (K : JournalOk M JI) {q : Nat} {O : Option Obj} {w : World} {lo g n nc mc : Nat} {a j : Addr} {F G : Nat → Prop} {na ma : Option Addr} {dead : Bool} {d : DM} {s : M.S} {xs ys : List ByteArray} (h : GI q O M JI w lo g a j F G na ma n nc mc dead d s xs ys) {g5 : Nat} (hg : w.heap.size ≤ g5) : Off F G g (some ⟨g5, 0, none⟩) := fun b o t e => by
  cases e
  exact ⟨fun hf => by have := diskOk.lt h.di _ hf; omega, fun hf => by have := K.lt h.ji _ hf; omega, by have := h.at_.lt; omega⟩

theorem plays_holds {M : JM} {Q : JournalGood M} {d : DM} {s : M.S} {xs ys : List ByteArray} {k n : Nat} (h : Plays M Q false d s xs ys k n) : Holds M d s xs ∧ d.n = n := by
  rcases h.2 with ⟨h1, h2, h3⟩ | ⟨h1, h2⟩
  · exact ⟨Q.live_holds h3, h.1⟩
  · cases h1
theorem plays_reads {M : JM} {Q : JournalGood M} {d : DM} {s : M.S} {xs ys : List ByteArray} {k n : Nat} (h : Plays M Q false d s xs ys k n) : ∀ m : Nat, m < n → (M.readP d s (m : Int)).2 = 0 := fun m hm =>
  ((plays_holds h).1.2 m (by rw [(plays_holds h).2]; exact hm)).1
theorem plays_same {M : JM} {Q : JournalGood M} {d : DM} {s : M.S} {xs ys : List ByteArray} {k n : Nat} (h : Plays M Q false d s xs ys k n) : sameB (readS M d s n) xs := (plays_holds h).1.same (plays_holds h).2

set_option maxRecDepth 100000 in
set_option maxHeartbeats 6400000 in
theorem plays16_any {M : JM} {JI : World → Addr → Addr → (Nat → Prop) → M.S → Prop} (K : JournalOk M JI) (Q : JournalGood M) (w : World) (x : Int) (hx : 0 ≤ x ∧ x ≤ 65535) (ao : Option Addr) (len cap : Nat) (hA : ActsIn w ao len) :
    Calls Try.prog 3 #[.int .u16 x, .slice ao len cap] w fun e w' => e = .returned (.bool true) ∧ Below w.heap.size w w' := by
  obtain ⟨n, hn⟩ : ∃ n : Nat, ((n : Int) = x % 417 + 64) := ⟨(x % 417 + 64).toNat, by omega⟩
  have hn1 : 64 ≤ n ∧ n ≤ 480 := by omega
  obtain ⟨s0, hs0, hlv0, hl0, hn0⟩ := Q.begins n hn1.1 hn1.2
  have cB := begin_any K n w hn1.1 hn1.2 s0 hs0
  obtain ⟨d0, hd0⟩ : ∃ d0, (M.openP (beginD n)).1 = d0 := ⟨_, rfl⟩
  rw [hd0] at hlv0 hn0
  have HD0 := Lib.hid hd0
  have HN := Lib.hid hn
  have HP0 := Lib.hid (show Plays M Q false d0 s0 (List.replicate n zeroS) (List.replicate n zeroS) 0 n from ⟨hn0, Or.inl ⟨rfl, rfl, hlv0⟩⟩)
  have hn480 := hn1.2
  have hn64 := hn1.1
  have hnp : 0 < n := by omega
  have HA := Lib.hid hA
  have hlen := hA.1
  clear hs0 hlv0 hl0 hn0 hd0 hn hn1 hA
  go_enter Try.func3, Try.ntmps3
  go_wp2_with (first
    | (go_at_call 8; refine (awake16_any K Q w1).mono ?_; rintro e w2 ⟨rfl, hb2⟩; have HG2 := Lib.hid (HG1.out.later K hb2); have B2 := Lib.hid (B1.out.trans (hb2.mono HL1.out)); clear hb2)
    | (go_at_call 7; rw [← HN.out]; refine cB.mono ?_; rintro e w1 ⟨g, a, j, F, G, na, nc, rfl, hGA, hDI, hJI, hdj, hF, hG, hwg, hown, hb1⟩; rw [HD0.out] at hDI; obtain ⟨q, O, hGI⟩ := began_gi hGA hDI hJI hdj hF hG hwg hown (by omega) (by omega); have HG1 := Lib.hid hGI; have B1 := Lib.hid hb1; have HL1 := Lib.hid hb1.size; clear hGI hGA hDI hJI hdj hF hG hwg hown hb1))
  obtain ⟨N, hN⟩ : ∃ N : Int, x % 417 + 64 = N := ⟨_, rfl⟩
  have HNN : Hid (N = (n : Int)) := Lib.hid (by rw [← hN, HN.out])
  go_loopw [7] (fun iv wr => ∃ i : Nat, iv = .int .i64 (i : Int) ∧ i ≤ len ∧ i ≤ 40 ∧ Hid (PlayRel M JI Q w g n a i wr)) (fun iv _ => 41 - (intOf iv).toNat)
  case atStart => exact ⟨0, rfl, Nat.zero_le _, Nat.zero_le _, Lib.hid ⟨q, O, j, F, G, na, na, nc, nc, false, d0, s0, _, _, 0, HG2.out, HP0.out, Nat.zero_le _, B2.out⟩⟩
  case round =>
    clear HD0 HP0 HG1 HG2 B1 B2 HL1 cB
    obtain ⟨i, rfl, hi, hi4, HR⟩ := hrel
    by_cases hlt : i < len ∧ i < 40
    case neg =>
      by_cases h1 : i < len
      · have h2 : ¬ i < 40 := fun h => hlt ⟨h1, h⟩
        have i1 : (i : Int) < (len : Int) := by omega
        have i2 : ¬ (i : Int) < 40 := by omega
        clear hlt
        go_wp2_with fail
        go_ret
        obtain ⟨q, O, j, F, G, na, ma, nc, mc, dead, d, s, xs, ys, k, _, _, _, hb⟩ := HR.out
        exact ⟨rfl, hb⟩
      · have i1 : ¬ (i : Int) < (len : Int) := by omega
        clear hlt
        go_wp2_with fail
        go_ret
        obtain ⟨q, O, j, F, G, na, ma, nc, mc, dead, d, s, xs, ys, k, _, _, _, hb⟩ := HR.out
        exact ⟨rfl, hb⟩
    case pos =>
      obtain ⟨h1, h2⟩ := hlt
      obtain ⟨q, O, j, F, G, na, ma, nc, mc, dead, d, s, xs, ys, k, hGI, hPl, hki, hBw⟩ := HR.out
      obtain ⟨wb, wf, rfl, hwb, hact⟩ := HA.out.2.resolve_left (by omega)
      obtain ⟨p, hp⟩ := hact i h1
      obtain ⟨c0, c1, hw, hn, hwl, lo, ll, lc, ko, kl, kc, c2, hL, c3, hK⟩ := hp
      have e0 := cell_later hBw c0
      have e1 := cell_later hBw c1
      have e2 := cell_later hBw c2
      have e3 := cell_later hBw c3
      have i1 : (i : Int) < (len : Int) := by omega
      have i2 : (i : Int) < 40 := by omega
      have i0 : (0 : Int) ≤ (i : Int) := by omega
      obtain ⟨what, pn, ws, ks⟩ := p
      simp only at hw hn hwl hL hK e0 e1
      have HL := Lib.hid hL
      have HK := Lib.hid hK
      have HWL := Lib.hid hwl
      have HKI := Lib.hid hki
      have HPL := Lib.hid hPl
      have HG0 := Lib.hid hGI
      have HB0 := Lib.hid hBw
      have HIA := Lib.hid (And.intro hw hn)
      obtain ⟨p, hp⟩ : ∃ p, wr.heap.size = p := ⟨_, rfl⟩
      obtain ⟨W1, hW1⟩ : ∃ W1, wr.alloc (.cells #[.int .i64 what, .int .i64 pn, .slice lo ll lc, .slice ko kl kc] 30) = W1 := ⟨_, rfl⟩
      have bW1 : Below wr.heap.size wr W1 := by rw [← hW1]; exact (Below.refl _ _).alloc (Nat.le_refl _) _
      have zz : W1.cell? ⟨p, 0, none⟩ = some (.int .i64 what) ∧ W1.cell? ⟨p, 1, none⟩ = some (.int .i64 pn) ∧ W1.cell? ⟨p, 2, none⟩ = some (.slice lo ll lc) ∧ W1.cell? ⟨p, 3, none⟩ = some (.slice ko kl kc) := by
        rw [← hp, ← hW1]
        refine ⟨?_, ?_, ?_, ?_⟩ <;> (rw [World.cell?_alloc_new]; rfl)
      have HG1 := Lib.hid ((hGI.later K bW1).beside (p := p) ⟨by have := hGI.at_.lt; omega, by rw [← hp, ← hW1]; simp, fun h => by have := diskOk.lt hGI.di _ h; omega, fun h => by have := K.lt hGI.ji _ h; omega⟩)
      have HB1 := Lib.hid (hBw.trans (bW1.mono hGI.lo_le))
      have HZ := Lib.hid zz
      obtain ⟨z0, z1, z2, z3⟩ := zz
      have y1 := HG1.out.at_
      obtain ⟨g0, g1, g2, g3, g4, _⟩ := y1
      have bD : Below W1.heap.size W1 W1.drew := (Below.refl _ _).drew
      have HGd := Lib.hid (HG1.out.later K bD)
      have HBd := Lib.hid (HB1.out.trans (bD.mono HG1.out.lo_le))
      clear c0 c1 c2 c3 hL hK hwl hki hPl hGI hBw HR hact hwb bW1 bD
      by_cases hw2 : what = 2
      · subst hw2
        cases dead
        all_goals
          go_wp2_with fail
          go_still_tail 6, (by kernel_rfl)
          go_wp2_with (first
            | (go_at_call 12; refine (diskOk.fail pn HGd.out.di HIA.out.2).mono ?_; rintro e w2 ⟨F2, rfl, hD2, hg2⟩; have HG2 := Lib.hid (HGd.out.disk K hnp HGd.out.lo_le hD2 hg2); have B2 := Lib.hid (HGd.out.below_disk HBd.out HGd.out.lo_le hg2); have z0 := (HG2.out.cell 0).trans HZ.out.1; have g4 := HG2.out.at_.2.2.2.2.1; clear hD2 hg2))
          go_region
          go_wp2_with fail
          go_roundw
          case rel => exact ⟨i + 1, by go_num, by omega, by omega, Lib.hid (PlayRel.next K HG2.out (plays_fail pn HPL.out) (Nat.le_succ_of_le HKI.out) B2.out (Below.refl _ _).drew)⟩
          case measure => simp [intOf]; omega
      · by_cases hw0 : what = 0 ∨ what = 1
        · obtain ⟨d2, s2, e9, hC, hn2, hcs⟩ := plays_commit (by have := HKI.out; omega) HPL.out ws
          have HSD := Lib.hid (plays_small HPL.out)
          have HLL : Hid (ll ≤ 4398046511104) := Lib.hid (by have h1 := HL.out.1; have h2 := HWL.out; omega)
          have HLN := Lib.hid HL.out.1
          rcases hcs with ⟨rfl, rfl, hp⟩ | ⟨rfl, rfl, hck, hp⟩ | ⟨rfl, rfl, hck, k', hk', hp⟩ | ⟨rfl, rfl, hck, hne, hp⟩
          · have HC := Lib.hid hC
            have HPN := Lib.hid hp
            clear hC hp hn2
            obtain ⟨cw, hcw⟩ : ∃ cw, checkW ws (n : Int) = cw := ⟨_, rfl⟩
            have HCW := Lib.hid hcw
            clear hcw
            rcases hw0 with rfl | rfl
            all_goals
              go_wp2_with fail
              go_still_tail 6, (by kernel_rfl)
              go_wp2_with (first
                | (go_at_call 10; refine (RCheck_any (n : Int) (HL.out.under HB2.out).wis HLL.out (by unfold I64; omega)).mono ?_; rintro e w3 ⟨rfl, hb3⟩; rw [HCW.out]; have HG3 := Lib.hid (HG2.out.later K hb3); have HB3 := Lib.hid (HB2.out.trans (hb3.mono HG2.out.lo_le)); have z2 := (HG3.out.cell 2).trans HZ.out.2.2.1; have g2 := HG3.out.at_.2.2.1; clear hb3)
                | (go_at_call 9; refine (K.commit (fun k => k < w.heap.size) lo ll lc ws HGd.out.di HGd.out.ji HGd.out.apart (HL.out.under HBd.out) (fun k hF hk => by have := (HGd.out.outF k hF).1; omega) (fun k hG hk => by have := (HGd.out.outG k hG).1; omega) HSD.out).mono ?_; rintro e w2 ⟨F2, G2, rfl, hD2, hJ2, hA2, hg2⟩; rw [HC.out] at hD2 hJ2; rw [HC.out]; have HG2 := Lib.hid (HGd.out.both K hnp HGd.out.lo_le hD2 hJ2 hA2 hg2); have HB2 := Lib.hid (HGd.out.below_both HBd.out HGd.out.lo_le hg2); have z2 := (HG2.out.cell 2).trans HZ.out.2.2.1; clear hD2 hJ2 hA2 hg2))
              have HG3d := Lib.hid (HG3.out.later K (Below.refl _ _).drew)
              have HB3d := Lib.hid (HB3.out.trans ((Below.refl _ _).drew.mono HG3.out.lo_le))
              go_still_tail 6, (by kernel_rfl)
              go_wp2_with (first
                | (go_at_call 11; refine (RPut_any HG3d.out.now ⟨by omega, by omega⟩ (HL.out.under HB3d.out).wis).mono ?_; rintro e w4 ⟨g5, c5, rfl, hc5, hO5⟩; have HG4 := Lib.hid (HG3d.out.later K hO5.2.2.2); have HB4 := Lib.hid (HB3d.out.trans (hO5.2.2.2.mono HG3d.out.lo_le)); have HS5 := Lib.hid (SIs.of_own (n := n) hO5 (by rw [putS_length]; exact HG3d.out.now.len) (by omega)); have HOF := Lib.hid (off_new K HG3d.out hO5.2.2.1); have z0 := (HG4.out.cell 0).trans HZ.out.1; have z2 := (HG4.out.cell 2).trans HZ.out.2.2.1; have g2 := HG4.out.at_.2.2.1; have g3 := HG4.out.at_.2.2.2.1; have g4 := HG4.out.at_.2.2.2.2.1; have p2 := HG4.out.at_.2.2.2.2.2 2; have p3 := HG4.out.at_.2.2.2.2.2 3; have p4 := HG4.out.at_.2.2.2.2.2 4; clear hc5 hO5))
              go_region
              go_wp2_with fail
              go_roundw
              case rel => exact ⟨i + 1, by go_num, by omega, by omega, Lib.hid (PlayRel.next K HG4.out HPN.out (Nat.le_succ_of_le HKI.out) HB4.out (Below.refl _ _).drew)⟩
              case measure => simp [intOf]; omega
          · have HC := Lib.hid hC
            have HPN := Lib.hid hp
            have HCW := Lib.hid hck
            clear hC hp hn2 hck
            have HRD : Hid (∀ m : Nat, m < n → (M.readP d2 s2 (m : Int)).2 = 0) := Lib.hid (plays_reads HPN.out)
            have HSM : Hid (sameB (readS M d2 s2 n) xs) := Lib.hid (plays_same HPN.out)
            rcases hw0 with rfl | rfl
            · go_wp2_with fail
              go_still_tail 6, (by kernel_rfl)
              go_wp2_with (first
                | (go_at_call 10; refine (RCheck_any (n : Int) (HL.out.under HB2.out).wis HLL.out (by unfold I64; omega)).mono ?_; rintro e w3 ⟨rfl, hb3⟩; rw [HCW.out]; have HG3 := Lib.hid (HG2.out.later K hb3); have HB3 := Lib.hid (HB2.out.trans (hb3.mono HG2.out.lo_le)); have z2 := (HG3.out.cell 2).trans HZ.out.2.2.1; have g2 := HG3.out.at_.2.2.1; clear hb3)
                | (go_at_call 9; refine (K.commit (fun k => k < w.heap.size) lo ll lc ws HGd.out.di HGd.out.ji HGd.out.apart (HL.out.under HBd.out) (fun k hF hk => by have := (HGd.out.outF k hF).1; omega) (fun k hG hk => by have := (HGd.out.outG k hG).1; omega) HSD.out).mono ?_; rintro e w2 ⟨F2, G2, rfl, hD2, hJ2, hA2, hg2⟩; rw [HC.out] at hD2 hJ2; rw [HC.out]; have HG2 := Lib.hid (HGd.out.both K hnp HGd.out.lo_le hD2 hJ2 hA2 hg2); have HB2 := Lib.hid (HGd.out.below_both HBd.out HGd.out.lo_le hg2); have z2 := (HG2.out.cell 2).trans HZ.out.2.2.1; clear hD2 hJ2 hA2 hg2))
              have HG3d := Lib.hid (HG3.out.later K (Below.refl _ _).drew)
              have HB3d := Lib.hid (HB3.out.trans ((Below.refl _ _).drew.mono HG3.out.lo_le))
              go_still_tail 6, (by kernel_rfl)
              go_wp2_with (first
                | (go_at_call 11; refine (RPut_any HG3d.out.now ⟨by omega, by omega⟩ (HL.out.under HB3d.out).wis).mono ?_; rintro e w4 ⟨g5, c5, rfl, hc5, hO5⟩; have HG4 := Lib.hid (HG3d.out.later K hO5.2.2.2); have HB4 := Lib.hid (HB3d.out.trans (hO5.2.2.2.mono HG3d.out.lo_le)); have HS5 := Lib.hid (SIs.of_own (n := n) hO5 (by rw [putS_length]; exact HG3d.out.now.len) (by omega)); have HOF := Lib.hid (off_new K HG3d.out hO5.2.2.1); have z0 := (HG4.out.cell 0).trans HZ.out.1; have z2 := (HG4.out.cell 2).trans HZ.out.2.2.1; have g2 := HG4.out.at_.2.2.1; have g3 := HG4.out.at_.2.2.2.1; have g4 := HG4.out.at_.2.2.2.2.1; have p2 := HG4.out.at_.2.2.2.2.2 2; have p3 := HG4.out.at_.2.2.2.2.2 3; have p4 := HG4.out.at_.2.2.2.2.2 4; clear hc5 hO5))
              have HGx := HG4
              have HBx := HB4
              have JK := K
              have HGe := Lib.hid (HGx.out.later K (Below.refl _ _).drew)
              have HBe := Lib.hid (HBx.out.trans ((Below.refl _ _).drew.mono HGx.out.lo_le))
              refine wp_region_held_drew (S := fun W => W.cell? ⟨g, 4, none⟩ = some (.bool false) ∧ W.cell? ⟨p, 0, none⟩ = some (.int .i64 0) ∧ W.cell? ⟨g, 2, none⟩ = some (.slice na n nc)) (by kernel_rfl) ⟨g4, z0, g2⟩ (fun hHeld => ?_)
              refine wpAnyH_take (i := 0) (oi := ⟨some 115, _, _, _, _, _⟩) (v := .pointer (some ⟨g, 0, none⟩)) rfl (by kernel_rfl) (by kernel_rfl) (by kernel_rfl) (fun _ _ _ h => h) (Or.inl ⟨by kernel_rfl, fun w _ => rfl⟩) (by assumption) ?_
              try simp only [Act.put, List.setIfInBounds_toArray, List.set_cons_zero, List.set_cons_succ]
              refine wpAnyH_take (i := 1) (oi := ⟨some 116, _, _, _, _, _⟩) (v := .pointer (some ⟨g, 0, none⟩)) rfl (by kernel_rfl) (by kernel_rfl) (by kernel_rfl) (fun _ _ _ h => h) (Or.inl ⟨by kernel_rfl, by intro w _; go_simp; (try omega)⟩) (by assumption) ?_
              try simp only [Act.put, List.setIfInBounds_toArray, List.set_cons_zero, List.set_cons_succ]
              refine wpAnyH_take (i := 2) (oi := ⟨some 117, _, _, _, _, _⟩) (v := .pointer (some ⟨g, 4, none⟩)) rfl (by kernel_rfl) (by kernel_rfl) (by kernel_rfl) (fun _ _ _ h => h) (Or.inl ⟨by kernel_rfl, by intro w _; go_simp; (try omega)⟩) (by assumption) ?_
              try simp only [Act.put, List.setIfInBounds_toArray, List.set_cons_zero, List.set_cons_succ]
              refine wpAnyH_take (i := 3) (oi := ⟨some 118, _, _, _, _, _⟩) (v := .bool false) rfl (by kernel_rfl) (by kernel_rfl) (by kernel_rfl) (fun _ _ _ h => h) (Or.inl ⟨by kernel_rfl, by intro w hSw; obtain ⟨s1, s2, s3⟩ := hSw; go_simp⟩) (by assumption) ?_
              try simp only [Act.put, List.setIfInBounds_toArray, List.set_cons_zero, List.set_cons_succ]
              refine wpAnyH_take (i := 4) (oi := ⟨some 119, _, _, _, _, _⟩) (v := .bool true) rfl (by kernel_rfl) (by kernel_rfl) (by kernel_rfl) (fun _ _ _ h => h) (Or.inl ⟨by kernel_rfl, by intro w _; go_simp; (try omega)⟩) (by assumption) ?_
              try simp only [Act.put, List.setIfInBounds_toArray, List.set_cons_zero, List.set_cons_succ]
              refine wpAnyH_take (i := 5) (oi := ⟨some 120, _, _, _, _, _⟩) (v := .bool true) rfl (by kernel_rfl) (by kernel_rfl) (by kernel_rfl) (fun _ _ _ h => h) (Or.inl ⟨by kernel_rfl, fun w _ => rfl⟩) (by assumption) ?_
              try simp only [Act.put, List.setIfInBounds_toArray, List.set_cons_zero, List.set_cons_succ]
              refine wpAnyH_take (i := 6) (oi := ⟨some 121, _, _, _, _, _⟩) (v := .pointer (some ⟨p, 0, none⟩)) rfl (by kernel_rfl) (by kernel_rfl) (by kernel_rfl) (fun _ _ _ h => h) (Or.inl ⟨by kernel_rfl, by intro w _; go_simp; (try omega)⟩) (by assumption) ?_
              try simp only [Act.put, List.setIfInBounds_toArray, List.set_cons_zero, List.set_cons_succ]
              refine wpAnyH_take (i := 7) (oi := ⟨some 122, _, _, _, _, _⟩) (v := .int .i64 0) rfl (by kernel_rfl) (by kernel_rfl) (by kernel_rfl) (fun _ _ _ h => h) (Or.inl ⟨by kernel_rfl, by intro w hSw; obtain ⟨s1, s2, s3⟩ := hSw; go_simp⟩) (by assumption) ?_
              try simp only [Act.put, List.setIfInBounds_toArray, List.set_cons_zero, List.set_cons_succ]
              refine wpAnyH_take (i := 8) (oi := ⟨some 123, _, _, _, _, _⟩) (v := .bool true) rfl (by kernel_rfl) (by kernel_rfl) (by kernel_rfl) (fun _ _ _ h => h) (Or.inl ⟨by kernel_rfl, by intro w _; go_simp; (try omega)⟩) (by assumption) ?_
              try simp only [Act.put, List.setIfInBounds_toArray, List.set_cons_zero, List.set_cons_succ]
              refine wpAnyH_take (i := 9) (oi := ⟨some 124, _, _, _, _, _⟩) (v := .bool true) rfl (by kernel_rfl) (by kernel_rfl) (by kernel_rfl) (fun _ _ _ h => h) (Or.inl ⟨by kernel_rfl, by intro w _; go_simp; (try omega)⟩) (by assumption) ?_
              try simp only [Act.put, List.setIfInBounds_toArray, List.set_cons_zero, List.set_cons_succ]
              refine wpAnyH_take (i := 10) (oi := ⟨some 125, _, _, _, _, _⟩) (v := .bool true) rfl (by kernel_rfl) (by kernel_rfl) (by kernel_rfl) (fun _ _ _ h => h) (Or.inl ⟨by kernel_rfl, fun w _ => rfl⟩) (by assumption) ?_
              try simp only [Act.put, List.setIfInBounds_toArray, List.set_cons_zero, List.set_cons_succ]
              refine wpAnyH_take (i := 11) (oi := ⟨some 126, _, _, _, _, _⟩) (v := .pointer (some ⟨g, 0, none⟩)) rfl (by kernel_rfl) (by kernel_rfl) (by kernel_rfl) (fun _ _ _ h => h) (Or.inl ⟨by kernel_rfl, fun w _ => rfl⟩) (by assumption) ?_
              try simp only [Act.put, List.setIfInBounds_toArray, List.set_cons_zero, List.set_cons_succ]
              refine wpAnyH_take (i := 13) (oi := ⟨some 128, _, _, _, _, _⟩) (v := .pointer (some ⟨g, 0, none⟩)) rfl (by kernel_rfl) (by kernel_rfl) (by kernel_rfl) (fun _ _ _ h => h) (Or.inl ⟨by kernel_rfl, fun w _ => rfl⟩) (by assumption) ?_
              try simp only [Act.put, List.setIfInBounds_toArray, List.set_cons_zero, List.set_cons_succ]
              refine wpAnyH_take (i := 14) (oi := ⟨some 129, _, _, _, _, _⟩) (v := .pointer (some ⟨g, 0, none⟩)) rfl (by kernel_rfl) (by kernel_rfl) (by kernel_rfl) (fun _ _ _ h => h) (Or.inl ⟨by kernel_rfl, by intro w _; go_simp; (try omega)⟩) (by assumption) ?_
              try simp only [Act.put, List.setIfInBounds_toArray, List.set_cons_zero, List.set_cons_succ]
              refine wpAnyH_take (i := 15) (oi := ⟨some 130, _, _, _, _, _⟩) (v := .pointer (some ⟨g, 2, none⟩)) rfl (by kernel_rfl) (by kernel_rfl) (by kernel_rfl) (fun _ _ _ h => h) (Or.inl ⟨by kernel_rfl, by intro w _; go_simp; (try omega)⟩) (by assumption) ?_
              try simp only [Act.put, List.setIfInBounds_toArray, List.set_cons_zero, List.set_cons_succ]
              refine wpAnyH_take (i := 16) (oi := ⟨some 131, _, _, _, _, _⟩) (v := .slice na n nc) rfl (by kernel_rfl) (by kernel_rfl) (by kernel_rfl) (fun _ _ _ h => h) (Or.inl ⟨by kernel_rfl, by intro w hSw; obtain ⟨s1, s2, s3⟩ := hSw; go_simp⟩) (by assumption) ?_
              try simp only [Act.put, List.setIfInBounds_toArray, List.set_cons_zero, List.set_cons_succ]
              refine wpAnyH_ready (rs := [12]) (by kernel_rfl) (by simp) ?_
              refine AllReadyH.cons (o := ⟨some 127, _, _, _, _, _⟩) rfl (fun K hK => ?_) AllReadyH.nil
              go_simp
              go_at_call 15
              refine (seen_any JK HGe.out.at_ hn480 HGe.out.di HGe.out.ji HRD.out).mono ?_
              rintro e w9 ⟨v9, rfl, hO9, hb9⟩
              obtain ⟨g9, c9, rfl, hgc9, hOV⟩ := ownV_form hO9 hnp hb9
              have HG9 := Lib.hid (HGe.out.later JK hb9)
              have HB9 := Lib.hid (HBe.out.trans (hb9.mono HGe.out.lo_le))
              have HS9 := Lib.hid (SIs.of_own hOV (readS_length M _ _ n) (by omega))
              clear hO9 hb9 hOV hgc9
              refine hK.out _ _ ?_ (fun hHeld1 => ?_)
              · exact ⟨HG9.out.at_.2.2.2.2.1, (HG9.out.cell 0).trans HZ.out.1, HG9.out.at_.2.2.1⟩
              clear hK K
              try simp only [Act.put, List.setIfInBounds_toArray, List.set_cons_zero, List.set_cons_succ]
              refine wpAnyH_ready (rs := [17]) (by kernel_rfl) (by simp) ?_
              refine AllReadyH.cons (o := ⟨some 132, _, _, _, _, _⟩) rfl (fun K hK => ?_) AllReadyH.nil
              go_simp
              go_at_call 14
              refine (RSame16_any _ HS9.out HG9.out.now).mono ?_
              rintro e w10 ⟨rfl, hb10⟩
              rw [sameD_true HSM.out]
              have HG10 := Lib.hid (HG9.out.later JK hb10)
              have HB10 := Lib.hid (HB9.out.trans (hb10.mono HG9.out.lo_le))
              clear hb10
              refine hK.out _ _ ?_ (fun hHeld2 => ?_)
              · exact ⟨HG10.out.at_.2.2.2.2.1, (HG10.out.cell 0).trans HZ.out.1, HG10.out.at_.2.2.1⟩
              clear hK K
              try simp only [Act.put, List.setIfInBounds_toArray, List.set_cons_zero, List.set_cons_succ]
              refine wpAnyH_take (i := 18) (oi := ⟨some 133, _, _, _, _, _⟩) (v := .bool false) rfl (by kernel_rfl) (by kernel_rfl) (by kernel_rfl) (fun _ _ _ h => h) (Or.inl ⟨by kernel_rfl, by intro w _; go_simp; (try omega)⟩) (by assumption) ?_
              try simp only [Act.put, List.setIfInBounds_toArray, List.set_cons_zero, List.set_cons_succ]
              refine wpAnyH_take (i := 19) (oi := ⟨some 134, _, _, _, _, _⟩) (v := .bool false) rfl (by kernel_rfl) (by kernel_rfl) (by kernel_rfl) (fun _ _ _ h => h) (Or.inl ⟨by kernel_rfl, by intro w _; go_simp; (try omega)⟩) (by assumption) ?_
              try simp only [Act.put, List.setIfInBounds_toArray, List.set_cons_zero, List.set_cons_succ]
              refine wpAnyH_done (by kernel_rfl) ?_ _
              go_wp2_with fail
              go_roundw
              case rel => exact ⟨i + 1, by go_num, by omega, by omega, Lib.hid (PlayRel.next K HG10.out HPN.out (Nat.le_succ_of_le HKI.out) HB10.out (Below.refl _ _))⟩
              case measure => simp [intOf]; omega
            · go_wp2_with fail
              go_still_tail 6, (by kernel_rfl)
              go_wp2_with (first
                | (go_at_call 10; refine (RCheck_any (n : Int) (HL.out.under HB2.out).wis HLL.out (by unfold I64; omega)).mono ?_; rintro e w3 ⟨rfl, hb3⟩; rw [HCW.out]; have HG3 := Lib.hid (HG2.out.later K hb3); have HB3 := Lib.hid (HB2.out.trans (hb3.mono HG2.out.lo_le)); have z2 := (HG3.out.cell 2).trans HZ.out.2.2.1; have g2 := HG3.out.at_.2.2.1; clear hb3)
                | (go_at_call 9; refine (K.commit (fun k => k < w.heap.size) lo ll lc ws HGd.out.di HGd.out.ji HGd.out.apart (HL.out.under HBd.out) (fun k hF hk => by have := (HGd.out.outF k hF).1; omega) (fun k hG hk => by have := (HGd.out.outG k hG).1; omega) HSD.out).mono ?_; rintro e w2 ⟨F2, G2, rfl, hD2, hJ2, hA2, hg2⟩; rw [HC.out] at hD2 hJ2; rw [HC.out]; have HG2 := Lib.hid (HGd.out.both K hnp HGd.out.lo_le hD2 hJ2 hA2 hg2); have HB2 := Lib.hid (HGd.out.below_both HBd.out HGd.out.lo_le hg2); have z2 := (HG2.out.cell 2).trans HZ.out.2.2.1; clear hD2 hJ2 hA2 hg2))
              have HG3d := Lib.hid (HG3.out.later K (Below.refl _ _).drew)
              have HB3d := Lib.hid (HB3.out.trans ((Below.refl _ _).drew.mono HG3.out.lo_le))
              go_still_tail 6, (by kernel_rfl)
              go_wp2_with (first
                | (go_at_call 11; refine (RPut_any HG3d.out.now ⟨by omega, by omega⟩ (HL.out.under HB3d.out).wis).mono ?_; rintro e w4 ⟨g5, c5, rfl, hc5, hO5⟩; have HG4 := Lib.hid (HG3d.out.later K hO5.2.2.2); have HB4 := Lib.hid (HB3d.out.trans (hO5.2.2.2.mono HG3d.out.lo_le)); have HS5 := Lib.hid (SIs.of_own (n := n) hO5 (by rw [putS_length]; exact HG3d.out.now.len) (by omega)); have HOF := Lib.hid (off_new K HG3d.out hO5.2.2.1); have z0 := (HG4.out.cell 0).trans HZ.out.1; have z2 := (HG4.out.cell 2).trans HZ.out.2.2.1; have g2 := HG4.out.at_.2.2.1; have g3 := HG4.out.at_.2.2.2.1; have g4 := HG4.out.at_.2.2.2.2.1; have p2 := HG4.out.at_.2.2.2.2.2 2; have p3 := HG4.out.at_.2.2.2.2.2 3; have p4 := HG4.out.at_.2.2.2.2.2 4; clear hc5 hO5))
              have HGx := HG4
              have HBx := HB4
              have JK := K
              have HGe := Lib.hid (HGx.out.later K (Below.refl _ _).drew)
              have HBe := Lib.hid (HBx.out.trans ((Below.refl _ _).drew.mono HGx.out.lo_le))
              refine wp_region_held_drew (S := fun W => W.cell? ⟨g, 4, none⟩ = some (.bool false) ∧ W.cell? ⟨p, 0, none⟩ = some (.int .i64 1) ∧ W.cell? ⟨g, 2, none⟩ = some (.slice na n nc)) (by kernel_rfl) ⟨g4, z0, g2⟩ (fun hHeld => ?_)
              refine wpAnyH_take (i := 0) (oi := ⟨some 115, _, _, _, _, _⟩) (v := .pointer (some ⟨g, 0, none⟩)) rfl (by kernel_rfl) (by kernel_rfl) (by kernel_rfl) (fun _ _ _ h => h) (Or.inl ⟨by kernel_rfl, fun w _ => rfl⟩) (by assumption) ?_
              try simp only [Act.put, List.setIfInBounds_toArray, List.set_cons_zero, List.set_cons_succ]
              refine wpAnyH_take (i := 1) (oi := ⟨some 116, _, _, _, _, _⟩) (v := .pointer (some ⟨g, 0, none⟩)) rfl (by kernel_rfl) (by kernel_rfl) (by kernel_rfl) (fun _ _ _ h => h) (Or.inl ⟨by kernel_rfl, by intro w _; go_simp; (try omega)⟩) (by assumption) ?_
              try simp only [Act.put, List.setIfInBounds_toArray, List.set_cons_zero, List.set_cons_succ]
              refine wpAnyH_take (i := 2) (oi := ⟨some 117, _, _, _, _, _⟩) (v := .pointer (some ⟨g, 4, none⟩)) rfl (by kernel_rfl) (by kernel_rfl) (by kernel_rfl) (fun _ _ _ h => h) (Or.inl ⟨by kernel_rfl, by intro w _; go_simp; (try omega)⟩) (by assumption) ?_
              try simp only [Act.put, List.setIfInBounds_toArray, List.set_cons_zero, List.set_cons_succ]
              refine wpAnyH_take (i := 3) (oi := ⟨some 118, _, _, _, _, _⟩) (v := .bool false) rfl (by kernel_rfl) (by kernel_rfl) (by kernel_rfl) (fun _ _ _ h => h) (Or.inl ⟨by kernel_rfl, by intro w hSw; obtain ⟨s1, s2, s3⟩ := hSw; go_simp⟩) (by assumption) ?_
              try simp only [Act.put, List.setIfInBounds_toArray, List.set_cons_zero, List.set_cons_succ]
              refine wpAnyH_take (i := 4) (oi := ⟨some 119, _, _, _, _, _⟩) (v := .bool true) rfl (by kernel_rfl) (by kernel_rfl) (by kernel_rfl) (fun _ _ _ h => h) (Or.inl ⟨by kernel_rfl, by intro w _; go_simp; (try omega)⟩) (by assumption) ?_
              try simp only [Act.put, List.setIfInBounds_toArray, List.set_cons_zero, List.set_cons_succ]
              refine wpAnyH_take (i := 5) (oi := ⟨some 120, _, _, _, _, _⟩) (v := .bool true) rfl (by kernel_rfl) (by kernel_rfl) (by kernel_rfl) (fun _ _ _ h => h) (Or.inl ⟨by kernel_rfl, fun w _ => rfl⟩) (by assumption) ?_
              try simp only [Act.put, List.setIfInBounds_toArray, List.set_cons_zero, List.set_cons_succ]
              refine wpAnyH_take (i := 6) (oi := ⟨some 121, _, _, _, _, _⟩) (v := .pointer (some ⟨p, 0, none⟩)) rfl (by kernel_rfl) (by kernel_rfl) (by kernel_rfl) (fun _ _ _ h => h) (Or.inl ⟨by kernel_rfl, by intro w _; go_simp; (try omega)⟩) (by assumption) ?_
              try simp only [Act.put, List.setIfInBounds_toArray, List.set_cons_zero, List.set_cons_succ]
              refine wpAnyH_take (i := 7) (oi := ⟨some 122, _, _, _, _, _⟩) (v := .int .i64 1) rfl (by kernel_rfl) (by kernel_rfl) (by kernel_rfl) (fun _ _ _ h => h) (Or.inl ⟨by kernel_rfl, by intro w hSw; obtain ⟨s1, s2, s3⟩ := hSw; go_simp⟩) (by assumption) ?_
              try simp only [Act.put, List.setIfInBounds_toArray, List.set_cons_zero, List.set_cons_succ]
              refine wpAnyH_take (i := 8) (oi := ⟨some 123, _, _, _, _, _⟩) (v := .bool true) rfl (by kernel_rfl) (by kernel_rfl) (by kernel_rfl) (fun _ _ _ h => h) (Or.inl ⟨by kernel_rfl, by intro w _; go_simp; (try omega)⟩) (by assumption) ?_
              try simp only [Act.put, List.setIfInBounds_toArray, List.set_cons_zero, List.set_cons_succ]
              refine wpAnyH_take (i := 9) (oi := ⟨some 124, _, _, _, _, _⟩) (v := .bool true) rfl (by kernel_rfl) (by kernel_rfl) (by kernel_rfl) (fun _ _ _ h => h) (Or.inl ⟨by kernel_rfl, by intro w _; go_simp; (try omega)⟩) (by assumption) ?_
              try simp only [Act.put, List.setIfInBounds_toArray, List.set_cons_zero, List.set_cons_succ]
              refine wpAnyH_take (i := 10) (oi := ⟨some 125, _, _, _, _, _⟩) (v := .bool true) rfl (by kernel_rfl) (by kernel_rfl) (by kernel_rfl) (fun _ _ _ h => h) (Or.inl ⟨by kernel_rfl, fun w _ => rfl⟩) (by assumption) ?_
              try simp only [Act.put, List.setIfInBounds_toArray, List.set_cons_zero, List.set_cons_succ]
              refine wpAnyH_take (i := 11) (oi := ⟨some 126, _, _, _, _, _⟩) (v := .pointer (some ⟨g, 0, none⟩)) rfl (by kernel_rfl) (by kernel_rfl) (by kernel_rfl) (fun _ _ _ h => h) (Or.inl ⟨by kernel_rfl, fun w _ => rfl⟩) (by assumption) ?_
              try simp only [Act.put, List.setIfInBounds_toArray, List.set_cons_zero, List.set_cons_succ]
              refine wpAnyH_take (i := 13) (oi := ⟨some 128, _, _, _, _, _⟩) (v := .pointer (some ⟨g, 0, none⟩)) rfl (by kernel_rfl) (by kernel_rfl) (by kernel_rfl) (fun _ _ _ h => h) (Or.inl ⟨by kernel_rfl, fun w _ => rfl⟩) (by assumption) ?_
              try simp only [Act.put, List.setIfInBounds_toArray, List.set_cons_zero, List.set_cons_succ]
              refine wpAnyH_take (i := 14) (oi := ⟨some 129, _, _, _, _, _⟩) (v := .pointer (some ⟨g, 0, none⟩)) rfl (by kernel_rfl) (by kernel_rfl) (by kernel_rfl) (fun _ _ _ h => h) (Or.inl ⟨by kernel_rfl, by intro w _; go_simp; (try omega)⟩) (by assumption) ?_
              try simp only [Act.put, List.setIfInBounds_toArray, List.set_cons_zero, List.set_cons_succ]
              refine wpAnyH_take (i := 15) (oi := ⟨some 130, _, _, _, _, _⟩) (v := .pointer (some ⟨g, 2, none⟩)) rfl (by kernel_rfl) (by kernel_rfl) (by kernel_rfl) (fun _ _ _ h => h) (Or.inl ⟨by kernel_rfl, by intro w _; go_simp; (try omega)⟩) (by assumption) ?_
              try simp only [Act.put, List.setIfInBounds_toArray, List.set_cons_zero, List.set_cons_succ]
              refine wpAnyH_take (i := 16) (oi := ⟨some 131, _, _, _, _, _⟩) (v := .slice na n nc) rfl (by kernel_rfl) (by kernel_rfl) (by kernel_rfl) (fun _ _ _ h => h) (Or.inl ⟨by kernel_rfl, by intro w hSw; obtain ⟨s1, s2, s3⟩ := hSw; go_simp⟩) (by assumption) ?_
              try simp only [Act.put, List.setIfInBounds_toArray, List.set_cons_zero, List.set_cons_succ]
              refine wpAnyH_ready (rs := [12]) (by kernel_rfl) (by simp) ?_
              refine AllReadyH.cons (o := ⟨some 127, _, _, _, _, _⟩) rfl (fun K hK => ?_) AllReadyH.nil
              go_simp
              go_at_call 15
              refine (seen_any JK HGe.out.at_ hn480 HGe.out.di HGe.out.ji HRD.out).mono ?_
              rintro e w9 ⟨v9, rfl, hO9, hb9⟩
              obtain ⟨g9, c9, rfl, hgc9, hOV⟩ := ownV_form hO9 hnp hb9
              have HG9 := Lib.hid (HGe.out.later JK hb9)
              have HB9 := Lib.hid (HBe.out.trans (hb9.mono HGe.out.lo_le))
              have HS9 := Lib.hid (SIs.of_own hOV (readS_length M _ _ n) (by omega))
              clear hO9 hb9 hOV hgc9
              refine hK.out _ _ ?_ (fun hHeld1 => ?_)
              · exact ⟨HG9.out.at_.2.2.2.2.1, (HG9.out.cell 0).trans HZ.out.1, HG9.out.at_.2.2.1⟩
              clear hK K
              try simp only [Act.put, List.setIfInBounds_toArray, List.set_cons_zero, List.set_cons_succ]
              refine wpAnyH_ready (rs := [17]) (by kernel_rfl) (by simp) ?_
              refine AllReadyH.cons (o := ⟨some 132, _, _, _, _, _⟩) rfl (fun K hK => ?_) AllReadyH.nil
              go_simp
              go_at_call 14
              refine (RSame16_any _ HS9.out HG9.out.now).mono ?_
              rintro e w10 ⟨rfl, hb10⟩
              rw [sameD_true HSM.out]
              have HG10 := Lib.hid (HG9.out.later JK hb10)
              have HB10 := Lib.hid (HB9.out.trans (hb10.mono HG9.out.lo_le))
              clear hb10
              refine hK.out _ _ ?_ (fun hHeld2 => ?_)
              · exact ⟨HG10.out.at_.2.2.2.2.1, (HG10.out.cell 0).trans HZ.out.1, HG10.out.at_.2.2.1⟩
              clear hK K
              try simp only [Act.put, List.setIfInBounds_toArray, List.set_cons_zero, List.set_cons_succ]
              refine wpAnyH_take (i := 18) (oi := ⟨some 133, _, _, _, _, _⟩) (v := .bool false) rfl (by kernel_rfl) (by kernel_rfl) (by kernel_rfl) (fun _ _ _ h => h) (Or.inl ⟨by kernel_rfl, by intro w _; go_simp; (try omega)⟩) (by assumption) ?_
              try simp only [Act.put, List.setIfInBounds_toArray, List.set_cons_zero, List.set_cons_succ]
              refine wpAnyH_take (i := 19) (oi := ⟨some 134, _, _, _, _, _⟩) (v := .bool false) rfl (by kernel_rfl) (by kernel_rfl) (by kernel_rfl) (fun _ _ _ h => h) (Or.inl ⟨by kernel_rfl, by intro w _; go_simp; (try omega)⟩) (by assumption) ?_
              try simp only [Act.put, List.setIfInBounds_toArray, List.set_cons_zero, List.set_cons_succ]
              refine wpAnyH_done (by kernel_rfl) ?_ _
              go_wp2_with fail
              go_roundw
              case rel => exact ⟨i + 1, by go_num, by omega, by omega, Lib.hid (PlayRel.next K HG10.out HPN.out (Nat.le_succ_of_le HKI.out) HB10.out (Below.refl _ _))⟩
              case measure => simp [intOf]; omega
          · have HC := Lib.hid hC
            have HPN := Lib.hid hp
            have HCW := Lib.hid hck
            have HKK := Lib.hid hk'
            clear hC hp hn2 hck hk'
            have HRD : Hid (∀ m : Nat, m < n → (M.readP d2 s2 (m : Int)).2 = 0) := Lib.hid (plays_reads HPN.out)
            have HSM : Hid (sameB (readS M d2 s2 n) (putS xs ws)) := Lib.hid (plays_same HPN.out)
            rcases hw0 with rfl | rfl
            · go_wp2_with fail
              go_still_tail 6, (by kernel_rfl)
              go_wp2_with (first
                | (go_at_call 10; refine (RCheck_any (n : Int) (HL.out.under HB2.out).wis HLL.out (by unfold I64; omega)).mono ?_; rintro e w3 ⟨rfl, hb3⟩; rw [HCW.out]; have HG3 := Lib.hid (HG2.out.later K hb3); have HB3 := Lib.hid (HB2.out.trans (hb3.mono HG2.out.lo_le)); have z2 := (HG3.out.cell 2).trans HZ.out.2.2.1; have g2 := HG3.out.at_.2.2.1; clear hb3)
                | (go_at_call 9; refine (K.commit (fun k => k < w.heap.size) lo ll lc ws HGd.out.di HGd.out.ji HGd.out.apart (HL.out.under HBd.out) (fun k hF hk => by have := (HGd.out.outF k hF).1; omega) (fun k hG hk => by have := (HGd.out.outG k hG).1; omega) HSD.out).mono ?_; rintro e w2 ⟨F2, G2, rfl, hD2, hJ2, hA2, hg2⟩; rw [HC.out] at hD2 hJ2; rw [HC.out]; have HG2 := Lib.hid (HGd.out.both K hnp HGd.out.lo_le hD2 hJ2 hA2 hg2); have HB2 := Lib.hid (HGd.out.below_both HBd.out HGd.out.lo_le hg2); have z2 := (HG2.out.cell 2).trans HZ.out.2.2.1; clear hD2 hJ2 hA2 hg2))
              have HG3d := Lib.hid (HG3.out.later K (Below.refl _ _).drew)
              have HB3d := Lib.hid (HB3.out.trans ((Below.refl _ _).drew.mono HG3.out.lo_le))
              go_still_tail 6, (by kernel_rfl)
              go_wp2_with (first
                | (go_at_call 11; refine (RPut_any HG3d.out.now ⟨by omega, by omega⟩ (HL.out.under HB3d.out).wis).mono ?_; rintro e w4 ⟨g5, c5, rfl, hc5, hO5⟩; have HG4 := Lib.hid (HG3d.out.later K hO5.2.2.2); have HB4 := Lib.hid (HB3d.out.trans (hO5.2.2.2.mono HG3d.out.lo_le)); have HS5 := Lib.hid (SIs.of_own (n := n) hO5 (by rw [putS_length]; exact HG3d.out.now.len) (by omega)); have HOF := Lib.hid (off_new K HG3d.out hO5.2.2.1); have z0 := (HG4.out.cell 0).trans HZ.out.1; have z2 := (HG4.out.cell 2).trans HZ.out.2.2.1; have g2 := HG4.out.at_.2.2.1; have g3 := HG4.out.at_.2.2.2.1; have g4 := HG4.out.at_.2.2.2.2.1; have p2 := HG4.out.at_.2.2.2.2.2 2; have p3 := HG4.out.at_.2.2.2.2.2 3; have p4 := HG4.out.at_.2.2.2.2.2 4; clear hc5 hO5))
              have HGa := Lib.hid (HG4.out.setNow K (vc := c5) HS5.out HOF.out)
              have HGx := Lib.hid (HGa.out.setMaybe K (vc := c5) HGa.out.now HGa.out.offN)
              have HBx := Lib.hid ((HB4.out.setCell (p := ⟨g, 2, none⟩) HG4.out.lo_g (.slice (some ⟨g5, 0, none⟩) n c5)).setCell (p := ⟨g, 3, none⟩) HG4.out.lo_g (.slice (some ⟨g5, 0, none⟩) n c5))
              have z0 := (HGx.out.cell 0).trans HZ.out.1
              have a3 := HGa.out.at_.2.2.2.1
              have q3 := HGa.out.at_.2.2.2.2.2 3
              go_wp2_with fail
              clear g4 g2
              have g4 := HGx.out.at_.2.2.2.2.1
              have g2 := HGx.out.at_.2.2.1
              have JK := K
              have HGe := Lib.hid (HGx.out.later K (Below.refl _ _).drew)
              have HBe := Lib.hid (HBx.out.trans ((Below.refl _ _).drew.mono HGx.out.lo_le))
              refine wp_region_held_drew (S := fun W => W.cell? ⟨g, 4, none⟩ = some (.bool false) ∧ W.cell? ⟨p, 0, none⟩ = some (.int .i64 0) ∧ W.cell? ⟨g, 2, none⟩ = some (.slice (some ⟨g5, 0, none⟩) n c5)) (by kernel_rfl) ⟨g4, z0, g2⟩ (fun hHeld => ?_)
              refine wpAnyH_take (i := 0) (oi := ⟨some 115, _, _, _, _, _⟩) (v := .pointer (some ⟨g, 0, none⟩)) rfl (by kernel_rfl) (by kernel_rfl) (by kernel_rfl) (fun _ _ _ h => h) (Or.inl ⟨by kernel_rfl, fun w _ => rfl⟩) (by assumption) ?_
              try simp only [Act.put, List.setIfInBounds_toArray, List.set_cons_zero, List.set_cons_succ]
              refine wpAnyH_take (i := 1) (oi := ⟨some 116, _, _, _, _, _⟩) (v := .pointer (some ⟨g, 0, none⟩)) rfl (by kernel_rfl) (by kernel_rfl) (by kernel_rfl) (fun _ _ _ h => h) (Or.inl ⟨by kernel_rfl, by intro w _; go_simp; (try omega)⟩) (by assumption) ?_
              try simp only [Act.put, List.setIfInBounds_toArray, List.set_cons_zero, List.set_cons_succ]
              refine wpAnyH_take (i := 2) (oi := ⟨some 117, _, _, _, _, _⟩) (v := .pointer (some ⟨g, 4, none⟩)) rfl (by kernel_rfl) (by kernel_rfl) (by kernel_rfl) (fun _ _ _ h => h) (Or.inl ⟨by kernel_rfl, by intro w _; go_simp; (try omega)⟩) (by assumption) ?_
              try simp only [Act.put, List.setIfInBounds_toArray, List.set_cons_zero, List.set_cons_succ]
              refine wpAnyH_take (i := 3) (oi := ⟨some 118, _, _, _, _, _⟩) (v := .bool false) rfl (by kernel_rfl) (by kernel_rfl) (by kernel_rfl) (fun _ _ _ h => h) (Or.inl ⟨by kernel_rfl, by intro w hSw; obtain ⟨s1, s2, s3⟩ := hSw; go_simp⟩) (by assumption) ?_
              try simp only [Act.put, List.setIfInBounds_toArray, List.set_cons_zero, List.set_cons_succ]
              refine wpAnyH_take (i := 4) (oi := ⟨some 119, _, _, _, _, _⟩) (v := .bool true) rfl (by kernel_rfl) (by kernel_rfl) (by kernel_rfl) (fun _ _ _ h => h) (Or.inl ⟨by kernel_rfl, by intro w _; go_simp; (try omega)⟩) (by assumption) ?_
              try simp only [Act.put, List.setIfInBounds_toArray, List.set_cons_zero, List.set_cons_succ]
              refine wpAnyH_take (i := 5) (oi := ⟨some 120, _, _, _, _, _⟩) (v := .bool true) rfl (by kernel_rfl) (by kernel_rfl) (by kernel_rfl) (fun _ _ _ h => h) (Or.inl ⟨by kernel_rfl, fun w _ => rfl⟩) (by assumption) ?_
              try simp only [Act.put, List.setIfInBounds_toArray, List.set_cons_zero, List.set_cons_succ]
              refine wpAnyH_take (i := 6) (oi := ⟨some 121, _, _, _, _, _⟩) (v := .pointer (some ⟨p, 0, none⟩)) rfl (by kernel_rfl) (by kernel_rfl) (by kernel_rfl) (fun _ _ _ h => h) (Or.inl ⟨by kernel_rfl, by intro w _; go_simp; (try omega)⟩) (by assumption) ?_
              try simp only [Act.put, List.setIfInBounds_toArray, List.set_cons_zero, List.set_cons_succ]
              refine wpAnyH_take (i := 7) (oi := ⟨some 122, _, _, _, _, _⟩) (v := .int .i64 0) rfl (by kernel_rfl) (by kernel_rfl) (by kernel_rfl) (fun _ _ _ h => h) (Or.inl ⟨by kernel_rfl, by intro w hSw; obtain ⟨s1, s2, s3⟩ := hSw; go_simp⟩) (by assumption) ?_
              try simp only [Act.put, List.setIfInBounds_toArray, List.set_cons_zero, List.set_cons_succ]
              refine wpAnyH_take (i := 8) (oi := ⟨some 123, _, _, _, _, _⟩) (v := .bool true) rfl (by kernel_rfl) (by kernel_rfl) (by kernel_rfl) (fun _ _ _ h => h) (Or.inl ⟨by kernel_rfl, by intro w _; go_simp; (try omega)⟩) (by assumption) ?_
              try simp only [Act.put, List.setIfInBounds_toArray, List.set_cons_zero, List.set_cons_succ]
              refine wpAnyH_take (i := 9) (oi := ⟨some 124, _, _, _, _, _⟩) (v := .bool true) rfl (by kernel_rfl) (by kernel_rfl) (by kernel_rfl) (fun _ _ _ h => h) (Or.inl ⟨by kernel_rfl, by intro w _; go_simp; (try omega)⟩) (by assumption) ?_
              try simp only [Act.put, List.setIfInBounds_toArray, List.set_cons_zero, List.set_cons_succ]
              refine wpAnyH_take (i := 10) (oi := ⟨some 125, _, _, _, _, _⟩) (v := .bool true) rfl (by kernel_rfl) (by kernel_rfl) (by kernel_rfl) (fun _ _ _ h => h) (Or.inl ⟨by kernel_rfl, fun w _ => rfl⟩) (by assumption) ?_
              try simp only [Act.put, List.setIfInBounds_toArray, List.set_cons_zero, List.set_cons_succ]
              refine wpAnyH_take (i := 11) (oi := ⟨some 126, _, _, _, _, _⟩) (v := .pointer (some ⟨g, 0, none⟩)) rfl (by kernel_rfl) (by kernel_rfl) (by kernel_rfl) (fun _ _ _ h => h) (Or.inl ⟨by kernel_rfl, fun w _ => rfl⟩) (by assumption) ?_
              try simp only [Act.put, List.setIfInBounds_toArray, List.set_cons_zero, List.set_cons_succ]
              refine wpAnyH_take (i := 13) (oi := ⟨some 128, _, _, _, _, _⟩) (v := .pointer (some ⟨g, 0, none⟩)) rfl (by kernel_rfl) (by kernel_rfl) (by kernel_rfl) (fun _ _ _ h => h) (Or.inl ⟨by kernel_rfl, fun w _ => rfl⟩) (by assumption) ?_
              try simp only [Act.put, List.setIfInBounds_toArray, List.set_cons_zero, List.set_cons_succ]
              refine wpAnyH_take (i := 14) (oi := ⟨some 129, _, _, _, _, _⟩) (v := .pointer (some ⟨g, 0, none⟩)) rfl (by kernel_rfl) (by kernel_rfl) (by kernel_rfl) (fun _ _ _ h => h) (Or.inl ⟨by kernel_rfl, by intro w _; go_simp; (try omega)⟩) (by assumption) ?_
              try simp only [Act.put, List.setIfInBounds_toArray, List.set_cons_zero, List.set_cons_succ]
              refine wpAnyH_take (i := 15) (oi := ⟨some 130, _, _, _, _, _⟩) (v := .pointer (some ⟨g, 2, none⟩)) rfl (by kernel_rfl) (by kernel_rfl) (by kernel_rfl) (fun _ _ _ h => h) (Or.inl ⟨by kernel_rfl, by intro w _; go_simp; (try omega)⟩) (by assumption) ?_
              try simp only [Act.put, List.setIfInBounds_toArray, List.set_cons_zero, List.set_cons_succ]
              refine wpAnyH_take (i := 16) (oi := ⟨some 131, _, _, _, _, _⟩) (v := .slice (some ⟨g5, 0, none⟩) n c5) rfl (by kernel_rfl) (by kernel_rfl) (by kernel_rfl) (fun _ _ _ h => h) (Or.inl ⟨by kernel_rfl, by intro w hSw; obtain ⟨s1, s2, s3⟩ := hSw; go_simp⟩) (by assumption) ?_
              try simp only [Act.put, List.setIfInBounds_toArray, List.set_cons_zero, List.set_cons_succ]
              refine wpAnyH_ready (rs := [12]) (by kernel_rfl) (by simp) ?_
              refine AllReadyH.cons (o := ⟨some 127, _, _, _, _, _⟩) rfl (fun K hK => ?_) AllReadyH.nil
              go_simp
              go_at_call 15
              refine (seen_any JK HGe.out.at_ hn480 HGe.out.di HGe.out.ji HRD.out).mono ?_
              rintro e w9 ⟨v9, rfl, hO9, hb9⟩
              obtain ⟨g9, c9, rfl, hgc9, hOV⟩ := ownV_form hO9 hnp hb9
              have HG9 := Lib.hid (HGe.out.later JK hb9)
              have HB9 := Lib.hid (HBe.out.trans (hb9.mono HGe.out.lo_le))
              have HS9 := Lib.hid (SIs.of_own hOV (readS_length M _ _ n) (by omega))
              clear hO9 hb9 hOV hgc9
              refine hK.out _ _ ?_ (fun hHeld1 => ?_)
              · exact ⟨HG9.out.at_.2.2.2.2.1, (HG9.out.cell 0).trans HZ.out.1, HG9.out.at_.2.2.1⟩
              clear hK K
              try simp only [Act.put, List.setIfInBounds_toArray, List.set_cons_zero, List.set_cons_succ]
              refine wpAnyH_ready (rs := [17]) (by kernel_rfl) (by simp) ?_
              refine AllReadyH.cons (o := ⟨some 132, _, _, _, _, _⟩) rfl (fun K hK => ?_) AllReadyH.nil
              go_simp
              go_at_call 14
              refine (RSame16_any _ HS9.out HG9.out.now).mono ?_
              rintro e w10 ⟨rfl, hb10⟩
              rw [sameD_true HSM.out]
              have HG10 := Lib.hid (HG9.out.later JK hb10)
              have HB10 := Lib.hid (HB9.out.trans (hb10.mono HG9.out.lo_le))
              clear hb10
              refine hK.out _ _ ?_ (fun hHeld2 => ?_)
              · exact ⟨HG10.out.at_.2.2.2.2.1, (HG10.out.cell 0).trans HZ.out.1, HG10.out.at_.2.2.1⟩
              clear hK K
              try simp only [Act.put, List.setIfInBounds_toArray, List.set_cons_zero, List.set_cons_succ]
              refine wpAnyH_take (i := 18) (oi := ⟨some 133, _, _, _, _, _⟩) (v := .bool false) rfl (by kernel_rfl) (by kernel_rfl) (by kernel_rfl) (fun _ _ _ h => h) (Or.inl ⟨by kernel_rfl, by intro w _; go_simp; (try omega)⟩) (by assumption) ?_
              try simp only [Act.put, List.setIfInBounds_toArray, List.set_cons_zero, List.set_cons_succ]
              refine wpAnyH_take (i := 19) (oi := ⟨some 134, _, _, _, _, _⟩) (v := .bool false) rfl (by kernel_rfl) (by kernel_rfl) (by kernel_rfl) (fun _ _ _ h => h) (Or.inl ⟨by kernel_rfl, by intro w _; go_simp; (try omega)⟩) (by assumption) ?_
              try simp only [Act.put, List.setIfInBounds_toArray, List.set_cons_zero, List.set_cons_succ]
              refine wpAnyH_done (by kernel_rfl) ?_ _
              go_wp2_with fail
              go_roundw
              case rel => exact ⟨i + 1, by go_num, by omega, by omega, Lib.hid (PlayRel.next K HG10.out HPN.out (by have h1 := HKK.out; have h2 := HKI.out; omega) HB10.out (Below.refl _ _))⟩
              case measure => simp [intOf]; omega
            · go_wp2_with fail
              go_still_tail 6, (by kernel_rfl)
              go_wp2_with (first
                | (go_at_call 10; refine (RCheck_any (n : Int) (HL.out.under HB2.out).wis HLL.out (by unfold I64; omega)).mono ?_; rintro e w3 ⟨rfl, hb3⟩; rw [HCW.out]; have HG3 := Lib.hid (HG2.out.later K hb3); have HB3 := Lib.hid (HB2.out.trans (hb3.mono HG2.out.lo_le)); have z2 := (HG3.out.cell 2).trans HZ.out.2.2.1; have g2 := HG3.out.at_.2.2.1; clear hb3)
                | (go_at_call 9; refine (K.commit (fun k => k < w.heap.size) lo ll lc ws HGd.out.di HGd.out.ji HGd.out.apart (HL.out.under HBd.out) (fun k hF hk => by have := (HGd.out.outF k hF).1; omega) (fun k hG hk => by have := (HGd.out.outG k hG).1; omega) HSD.out).mono ?_; rintro e w2 ⟨F2, G2, rfl, hD2, hJ2, hA2, hg2⟩; rw [HC.out] at hD2 hJ2; rw [HC.out]; have HG2 := Lib.hid (HGd.out.both K hnp HGd.out.lo_le hD2 hJ2 hA2 hg2); have HB2 := Lib.hid (HGd.out.below_both HBd.out HGd.out.lo_le hg2); have z2 := (HG2.out.cell 2).trans HZ.out.2.2.1; clear hD2 hJ2 hA2 hg2))
              have HG3d := Lib.hid (HG3.out.later K (Below.refl _ _).drew)
              have HB3d := Lib.hid (HB3.out.trans ((Below.refl _ _).drew.mono HG3.out.lo_le))
              go_still_tail 6, (by kernel_rfl)
              go_wp2_with (first
                | (go_at_call 11; refine (RPut_any HG3d.out.now ⟨by omega, by omega⟩ (HL.out.under HB3d.out).wis).mono ?_; rintro e w4 ⟨g5, c5, rfl, hc5, hO5⟩; have HG4 := Lib.hid (HG3d.out.later K hO5.2.2.2); have HB4 := Lib.hid (HB3d.out.trans (hO5.2.2.2.mono HG3d.out.lo_le)); have HS5 := Lib.hid (SIs.of_own (n := n) hO5 (by rw [putS_length]; exact HG3d.out.now.len) (by omega)); have HOF := Lib.hid (off_new K HG3d.out hO5.2.2.1); have z0 := (HG4.out.cell 0).trans HZ.out.1; have z2 := (HG4.out.cell 2).trans HZ.out.2.2.1; have g2 := HG4.out.at_.2.2.1; have g3 := HG4.out.at_.2.2.2.1; have g4 := HG4.out.at_.2.2.2.2.1; have p2 := HG4.out.at_.2.2.2.2.2 2; have p3 := HG4.out.at_.2.2.2.2.2 3; have p4 := HG4.out.at_.2.2.2.2.2 4; clear hc5 hO5))
              have HGa := Lib.hid (HG4.out.setNow K (vc := c5) HS5.out HOF.out)
              have HGx := Lib.hid (HGa.out.setMaybe K (vc := c5) HGa.out.now HGa.out.offN)
              have HBx := Lib.hid ((HB4.out.setCell (p := ⟨g, 2, none⟩) HG4.out.lo_g (.slice (some ⟨g5, 0, none⟩) n c5)).setCell (p := ⟨g, 3, none⟩) HG4.out.lo_g (.slice (some ⟨g5, 0, none⟩) n c5))
              have z0 := (HGx.out.cell 0).trans HZ.out.1
              have a3 := HGa.out.at_.2.2.2.1
              have q3 := HGa.out.at_.2.2.2.2.2 3
              go_wp2_with fail
              clear g4 g2
              have g4 := HGx.out.at_.2.2.2.2.1
              have g2 := HGx.out.at_.2.2.1
              have JK := K
              have HGe := Lib.hid (HGx.out.later K (Below.refl _ _).drew)
              have HBe := Lib.hid (HBx.out.trans ((Below.refl _ _).drew.mono HGx.out.lo_le))
              refine wp_region_held_drew (S := fun W => W.cell? ⟨g, 4, none⟩ = some (.bool false) ∧ W.cell? ⟨p, 0, none⟩ = some (.int .i64 1) ∧ W.cell? ⟨g, 2, none⟩ = some (.slice (some ⟨g5, 0, none⟩) n c5)) (by kernel_rfl) ⟨g4, z0, g2⟩ (fun hHeld => ?_)
              refine wpAnyH_take (i := 0) (oi := ⟨some 115, _, _, _, _, _⟩) (v := .pointer (some ⟨g, 0, none⟩)) rfl (by kernel_rfl) (by kernel_rfl) (by kernel_rfl) (fun _ _ _ h => h) (Or.inl ⟨by kernel_rfl, fun w _ => rfl⟩) (by assumption) ?_
              try simp only [Act.put, List.setIfInBounds_toArray, List.set_cons_zero, List.set_cons_succ]
              refine wpAnyH_take (i := 1) (oi := ⟨some 116, _, _, _, _, _⟩) (v := .pointer (some ⟨g, 0, none⟩)) rfl (by kernel_rfl) (by kernel_rfl) (by kernel_rfl) (fun _ _ _ h => h) (Or.inl ⟨by kernel_rfl, by intro w _; go_simp; (try omega)⟩) (by assumption) ?_
              try simp only [Act.put, List.setIfInBounds_toArray, List.set_cons_zero, List.set_cons_succ]
              refine wpAnyH_take (i := 2) (oi := ⟨some 117, _, _, _, _, _⟩) (v := .pointer (some ⟨g, 4, none⟩)) rfl (by kernel_rfl) (by kernel_rfl) (by kernel_rfl) (fun _ _ _ h => h) (Or.inl ⟨by kernel_rfl, by intro w _; go_simp; (try omega)⟩) (by assumption) ?_
              try simp only [Act.put, List.setIfInBounds_toArray, List.set_cons_zero, List.set_cons_succ]
              refine wpAnyH_take (i := 3) (oi := ⟨some 118, _, _, _, _, _⟩) (v := .bool false) rfl (by kernel_rfl) (by kernel_rfl) (by kernel_rfl) (fun _ _ _ h => h) (Or.inl ⟨by kernel_rfl, by intro w hSw; obtain ⟨s1, s2, s3⟩ := hSw; go_simp⟩) (by assumption) ?_
              try simp only [Act.put, List.setIfInBounds_toArray, List.set_cons_zero, List.set_cons_succ]
              refine wpAnyH_take (i := 4) (oi := ⟨some 119, _, _, _, _, _⟩) (v := .bool true) rfl (by kernel_rfl) (by kernel_rfl) (by kernel_rfl) (fun _ _ _ h => h) (Or.inl ⟨by kernel_rfl, by intro w _; go_simp; (try omega)⟩) (by assumption) ?_
              try simp only [Act.put, List.setIfInBounds_toArray, List.set_cons_zero, List.set_cons_succ]
              refine wpAnyH_take (i := 5) (oi := ⟨some 120, _, _, _, _, _⟩) (v := .bool true) rfl (by kernel_rfl) (by kernel_rfl) (by kernel_rfl) (fun _ _ _ h => h) (Or.inl ⟨by kernel_rfl, fun w _ => rfl⟩) (by assumption) ?_
              try simp only [Act.put, List.setIfInBounds_toArray, List.set_cons_zero, List.set_cons_succ]
              refine wpAnyH_take (i := 6) (oi := ⟨some 121, _, _, _, _, _⟩) (v := .pointer (some ⟨p, 0, none⟩)) rfl (by kernel_rfl) (by kernel_rfl) (by kernel_rfl) (fun _ _ _ h => h) (Or.inl ⟨by kernel_rfl, by intro w _; go_simp; (try omega)⟩) (by assumption) ?_
              try simp only [Act.put, List.setIfInBounds_toArray, List.set_cons_zero, List.set_cons_succ]
              refine wpAnyH_take (i := 7) (oi := ⟨some 122, _, _, _, _, _⟩) (v := .int .i64 1) rfl (by kernel_rfl) (by kernel_rfl) (by kernel_rfl) (fun _ _ _ h => h) (Or.inl ⟨by kernel_rfl, by intro w hSw; obtain ⟨s1, s2, s3⟩ := hSw; go_simp⟩) (by assumption) ?_
              try simp only [Act.put, List.setIfInBounds_toArray, List.set_cons_zero, List.set_cons_succ]
              refine wpAnyH_take (i := 8) (oi := ⟨some 123, _, _, _, _, _⟩) (v := .bool true) rfl (by kernel_rfl) (by kernel_rfl) (by kernel_rfl) (fun _ _ _ h => h) (Or.inl ⟨by kernel_rfl, by intro w _; go_simp; (try omega)⟩) (by assumption) ?_
              try simp only [Act.put, List.setIfInBounds_toArray, List.set_cons_zero, List.set_cons_succ]
              refine wpAnyH_take (i := 9) (oi := ⟨some 124, _, _, _, _, _⟩) (v := .bool true) rfl (by kernel_rfl) (by kernel_rfl) (by kernel_rfl) (fun _ _ _ h => h) (Or.inl ⟨by kernel_rfl, by intro w _; go_simp; (try omega)⟩) (by assumption) ?_
              try simp only [Act.put, List.setIfInBounds_toArray, List.set_cons_zero, List.set_cons_succ]
              refine wpAnyH_take (i := 10) (oi := ⟨some 125, _, _, _, _, _⟩) (v := .bool true) rfl (by kernel_rfl) (by kernel_rfl) (by kernel_rfl) (fun _ _ _ h => h) (Or.inl ⟨by kernel_rfl, fun w _ => rfl⟩) (by assumption) ?_
              try simp only [Act.put, List.setIfInBounds_toArray, List.set_cons_zero, List.set_cons_succ]
              refine wpAnyH_take (i := 11) (oi := ⟨some 126, _, _, _, _, _⟩) (v := .pointer (some ⟨g, 0, none⟩)) rfl (by kernel_rfl) (by kernel_rfl) (by kernel_rfl) (fun _ _ _ h => h) (Or.inl ⟨by kernel_rfl, fun w _ => rfl⟩) (by assumption) ?_
              try simp only [Act.put, List.setIfInBounds_toArray, List.set_cons_zero, List.set_cons_succ]
              refine wpAnyH_take (i := 13) (oi := ⟨some 128, _, _, _, _, _⟩) (v := .pointer (some ⟨g, 0, none⟩)) rfl (by kernel_rfl) (by kernel_rfl) (by kernel_rfl) (fun _ _ _ h => h) (Or.inl ⟨by kernel_rfl, fun w _ => rfl⟩) (by assumption) ?_
              try simp only [Act.put, List.setIfInBounds_toArray, List.set_cons_zero, List.set_cons_succ]
              refine wpAnyH_take (i := 14) (oi := ⟨some 129, _, _, _, _, _⟩) (v := .pointer (some ⟨g, 0, none⟩)) rfl (by kernel_rfl) (by kernel_rfl) (by kernel_rfl) (fun _ _ _ h => h) (Or.inl ⟨by kernel_rfl, by intro w _; go_simp; (try omega)⟩) (by assumption) ?_
              try simp only [Act.put, List.setIfInBounds_toArray, List.set_cons_zero, List.set_cons_succ]
              refine wpAnyH_take (i := 15) (oi := ⟨some 130, _, _, _, _, _⟩) (v := .pointer (some ⟨g, 2, none⟩)) rfl (by kernel_rfl) (by kernel_rfl) (by kernel_rfl) (fun _ _ _ h => h) (Or.inl ⟨by kernel_rfl, by intro w _; go_simp; (try omega)⟩) (by assumption) ?_
              try simp only [Act.put, List.setIfInBounds_toArray, List.set_cons_zero, List.set_cons_succ]
              refine wpAnyH_take (i := 16) (oi := ⟨some 131, _, _, _, _, _⟩) (v := .slice (some ⟨g5, 0, none⟩) n c5) rfl (by kernel_rfl) (by kernel_rfl) (by kernel_rfl) (fun _ _ _ h => h) (Or.inl ⟨by kernel_rfl, by intro w hSw; obtain ⟨s1, s2, s3⟩ := hSw; go_simp⟩) (by assumption) ?_
              try simp only [Act.put, List.setIfInBounds_toArray, List.set_cons_zero, List.set_cons_succ]
              refine wpAnyH_ready (rs := [12]) (by kernel_rfl) (by simp) ?_
              refine AllReadyH.cons (o := ⟨some 127, _, _, _, _, _⟩) rfl (fun K hK => ?_) AllReadyH.nil
              go_simp
              go_at_call 15
              refine (seen_any JK HGe.out.at_ hn480 HGe.out.di HGe.out.ji HRD.out).mono ?_
              rintro e w9 ⟨v9, rfl, hO9, hb9⟩
              obtain ⟨g9, c9, rfl, hgc9, hOV⟩ := ownV_form hO9 hnp hb9
              have HG9 := Lib.hid (HGe.out.later JK hb9)
              have HB9 := Lib.hid (HBe.out.trans (hb9.mono HGe.out.lo_le))
              have HS9 := Lib.hid (SIs.of_own hOV (readS_length M _ _ n) (by omega))
              clear hO9 hb9 hOV hgc9
              refine hK.out _ _ ?_ (fun hHeld1 => ?_)
              · exact ⟨HG9.out.at_.2.2.2.2.1, (HG9.out.cell 0).trans HZ.out.1, HG9.out.at_.2.2.1⟩
              clear hK K
              try simp only [Act.put, List.setIfInBounds_toArray, List.set_cons_zero, List.set_cons_succ]
              refine wpAnyH_ready (rs := [17]) (by kernel_rfl) (by simp) ?_
              refine AllReadyH.cons (o := ⟨some 132, _, _, _, _, _⟩) rfl (fun K hK => ?_) AllReadyH.nil
              go_simp
              go_at_call 14
              refine (RSame16_any _ HS9.out HG9.out.now).mono ?_
              rintro e w10 ⟨rfl, hb10⟩
              rw [sameD_true HSM.out]
              have HG10 := Lib.hid (HG9.out.later JK hb10)
              have HB10 := Lib.hid (HB9.out.trans (hb10.mono HG9.out.lo_le))
              clear hb10
              refine hK.out _ _ ?_ (fun hHeld2 => ?_)
              · exact ⟨HG10.out.at_.2.2.2.2.1, (HG10.out.cell 0).trans HZ.out.1, HG10.out.at_.2.2.1⟩
              clear hK K
              try simp only [Act.put, List.setIfInBounds_toArray, List.set_cons_zero, List.set_cons_succ]
              refine wpAnyH_take (i := 18) (oi := ⟨some 133, _, _, _, _, _⟩) (v := .bool false) rfl (by kernel_rfl) (by kernel_rfl) (by kernel_rfl) (fun _ _ _ h => h) (Or.inl ⟨by kernel_rfl, by intro w _; go_simp; (try omega)⟩) (by assumption) ?_
              try simp only [Act.put, List.setIfInBounds_toArray, List.set_cons_zero, List.set_cons_succ]
              refine wpAnyH_take (i := 19) (oi := ⟨some 134, _, _, _, _, _⟩) (v := .bool false) rfl (by kernel_rfl) (by kernel_rfl) (by kernel_rfl) (fun _ _ _ h => h) (Or.inl ⟨by kernel_rfl, by intro w _; go_simp; (try omega)⟩) (by assumption) ?_
              try simp only [Act.put, List.setIfInBounds_toArray, List.set_cons_zero, List.set_cons_succ]
              refine wpAnyH_done (by kernel_rfl) ?_ _
              go_wp2_with fail
              go_roundw
              case rel => exact ⟨i + 1, by go_num, by omega, by omega, Lib.hid (PlayRel.next K HG10.out HPN.out (by have h1 := HKK.out; have h2 := HKI.out; omega) HB10.out (Below.refl _ _))⟩
              case measure => simp [intOf]; omega
          · have HC := Lib.hid hC
            have HPN := Lib.hid hp
            have HCW := Lib.hid hck
            have hl0 : (0 : Int) < (ll : Int) := by
              have h1 := HLN.out
              have h2 : ws.length ≠ 0 := fun h => hne (List.length_eq_zero_iff.1 h)
              omega
            clear hC hp hn2 hck hne
            rcases hw0 with rfl | rfl
            all_goals
              go_wp2_with fail
              go_still_tail 6, (by kernel_rfl)
              go_wp2_with (first
                | (go_at_call 10; refine (RCheck_any (n : Int) (HL.out.under HB2.out).wis HLL.out (by unfold I64; omega)).mono ?_; rintro e w3 ⟨rfl, hb3⟩; rw [HCW.out]; have HG3 := Lib.hid (HG2.out.later K hb3); have HB3 := Lib.hid (HB2.out.trans (hb3.mono HG2.out.lo_le)); have z2 := (HG3.out.cell 2).trans HZ.out.2.2.1; have g2 := HG3.out.at_.2.2.1; clear hb3)
                | (go_at_call 9; refine (K.commit (fun k => k < w.heap.size) lo ll lc ws HGd.out.di HGd.out.ji HGd.out.apart (HL.out.under HBd.out) (fun k hF hk => by have := (HGd.out.outF k hF).1; omega) (fun k hG hk => by have := (HGd.out.outG k hG).1; omega) HSD.out).mono ?_; rintro e w2 ⟨F2, G2, rfl, hD2, hJ2, hA2, hg2⟩; rw [HC.out] at hD2 hJ2; rw [HC.out]; have HG2 := Lib.hid (HGd.out.both K hnp HGd.out.lo_le hD2 hJ2 hA2 hg2); have HB2 := Lib.hid (HGd.out.below_both HBd.out HGd.out.lo_le hg2); have z2 := (HG2.out.cell 2).trans HZ.out.2.2.1; clear hD2 hJ2 hA2 hg2))
              have HG3d := Lib.hid (HG3.out.later K (Below.refl _ _).drew)
              have HB3d := Lib.hid (HB3.out.trans ((Below.refl _ _).drew.mono HG3.out.lo_le))
              go_still_tail 6, (by kernel_rfl)
              go_wp2_with (first
                | (go_at_call 11; refine (RPut_any HG3d.out.now ⟨by omega, by omega⟩ (HL.out.under HB3d.out).wis).mono ?_; rintro e w4 ⟨g5, c5, rfl, hc5, hO5⟩; have HG4 := Lib.hid (HG3d.out.later K hO5.2.2.2); have HB4 := Lib.hid (HB3d.out.trans (hO5.2.2.2.mono HG3d.out.lo_le)); have HS5 := Lib.hid (SIs.of_own (n := n) hO5 (by rw [putS_length]; exact HG3d.out.now.len) (by omega)); have HOF := Lib.hid (off_new K HG3d.out hO5.2.2.1); have z0 := (HG4.out.cell 0).trans HZ.out.1; have z2 := (HG4.out.cell 2).trans HZ.out.2.2.1; have g2 := HG4.out.at_.2.2.1; have g3 := HG4.out.at_.2.2.2.1; have g4 := HG4.out.at_.2.2.2.2.1; have p2 := HG4.out.at_.2.2.2.2.2 2; have p3 := HG4.out.at_.2.2.2.2.2 3; have p4 := HG4.out.at_.2.2.2.2.2 4; clear hc5 hO5))
              have HGa := Lib.hid (HG4.out.setMaybe K (vc := c5) HS5.out HOF.out)
              have HGx := Lib.hid (HGa.out.setDead K true)
              have HBx := Lib.hid ((HB4.out.setCell (p := ⟨g, 3, none⟩) HG4.out.lo_g (.slice (some ⟨g5, 0, none⟩) n c5)).setCell (p := ⟨g, 4, none⟩) HG4.out.lo_g (.bool true))
              have a4 := HGa.out.at_.2.2.2.2.1
              have q4 := HGa.out.at_.2.2.2.2.2 4
              have b4 := HGx.out.at_.2.2.2.2.1
              go_wp2_with fail
              go_region
              go_wp2_with fail
              go_roundw
              case rel => exact ⟨i + 1, by go_num, by omega, by omega, Lib.hid (PlayRel.next K HGx.out HPN.out (by have h2 := HKI.out; omega) HBx.out (Below.refl _ _).drew)⟩
              case measure => simp [intOf]; omega
        · obtain ⟨w0, w1'⟩ : ¬ what = 0 ∧ ¬ what = 1 := ⟨fun h => hw0 (Or.inl h), fun h => hw0 (Or.inr h)⟩
          clear hw0
          go_wp2_with (first
            | (go_at_call 13; refine (open16_any K Q pn HIA.out.2 HG1.out hnp (HK.out.under HB1.out) (plays_rec ks HPL.out)).mono ?_; rintro e w2 ⟨j2, F2, G2, va, vc, d2, s2, zs, rfl, hG2, hlv2, _, hb2⟩; have HG2 := Lib.hid hG2; have HLV := Lib.hid hlv2; have B2 := Lib.hid (HB1.out.trans hb2); have z0 := (HG2.out.cell 0).trans HZ.out.1; have g4 := HG2.out.at_.2.2.2.2.1; have g2 := HG2.out.at_.2.2.1; clear hG2 hlv2 hb2))
          have HN2 : Hid (d2.n = n) := Lib.hid (by have h1 := (Q.live_holds HLV.out).1; have h2 := HG2.out.now.len; omega)
          by_cases hlt : what < 2
          · have HRD : Hid (∀ m : Nat, m < n → (M.readP d2 s2 (m : Int)).2 = 0) := Lib.hid (fun m hm => ((Q.live_holds HLV.out).2 m (by rw [HN2.out]; exact hm)).1)
            have HSM : Hid (sameB (readS M d2 s2 n) zs) := Lib.hid ((Q.live_holds HLV.out).same HN2.out)
            have HGx := HG2
            have HBx := B2
            have JK := K
            have HGe := Lib.hid (HGx.out.later K (Below.refl _ _).drew)
            have HBe := Lib.hid (HBx.out.trans ((Below.refl _ _).drew.mono HGx.out.lo_le))
            refine wp_region_held_drew (S := fun W => W.cell? ⟨g, 4, none⟩ = some (.bool false) ∧ W.cell? ⟨p, 0, none⟩ = some (.int .i64 what) ∧ W.cell? ⟨g, 2, none⟩ = some (.slice va n vc)) (by kernel_rfl) ⟨g4, z0, g2⟩ (fun hHeld => ?_)
            refine wpAnyH_take (i := 0) (oi := ⟨some 115, _, _, _, _, _⟩) (v := .pointer (some ⟨g, 0, none⟩)) rfl (by kernel_rfl) (by kernel_rfl) (by kernel_rfl) (fun _ _ _ h => h) (Or.inl ⟨by kernel_rfl, fun w _ => rfl⟩) (by assumption) ?_
            try simp only [Act.put, List.setIfInBounds_toArray, List.set_cons_zero, List.set_cons_succ]
            refine wpAnyH_take (i := 1) (oi := ⟨some 116, _, _, _, _, _⟩) (v := .pointer (some ⟨g, 0, none⟩)) rfl (by kernel_rfl) (by kernel_rfl) (by kernel_rfl) (fun _ _ _ h => h) (Or.inl ⟨by kernel_rfl, by intro w _; go_simp; (try omega)⟩) (by assumption) ?_
            try simp only [Act.put, List.setIfInBounds_toArray, List.set_cons_zero, List.set_cons_succ]
            refine wpAnyH_take (i := 2) (oi := ⟨some 117, _, _, _, _, _⟩) (v := .pointer (some ⟨g, 4, none⟩)) rfl (by kernel_rfl) (by kernel_rfl) (by kernel_rfl) (fun _ _ _ h => h) (Or.inl ⟨by kernel_rfl, by intro w _; go_simp; (try omega)⟩) (by assumption) ?_
            try simp only [Act.put, List.setIfInBounds_toArray, List.set_cons_zero, List.set_cons_succ]
            refine wpAnyH_take (i := 3) (oi := ⟨some 118, _, _, _, _, _⟩) (v := .bool false) rfl (by kernel_rfl) (by kernel_rfl) (by kernel_rfl) (fun _ _ _ h => h) (Or.inl ⟨by kernel_rfl, by intro w hSw; obtain ⟨s1, s2, s3⟩ := hSw; go_simp⟩) (by assumption) ?_
            try simp only [Act.put, List.setIfInBounds_toArray, List.set_cons_zero, List.set_cons_succ]
            refine wpAnyH_take (i := 4) (oi := ⟨some 119, _, _, _, _, _⟩) (v := .bool true) rfl (by kernel_rfl) (by kernel_rfl) (by kernel_rfl) (fun _ _ _ h => h) (Or.inl ⟨by kernel_rfl, by intro w _; go_simp; (try omega)⟩) (by assumption) ?_
            try simp only [Act.put, List.setIfInBounds_toArray, List.set_cons_zero, List.set_cons_succ]
            refine wpAnyH_take (i := 5) (oi := ⟨some 120, _, _, _, _, _⟩) (v := .bool true) rfl (by kernel_rfl) (by kernel_rfl) (by kernel_rfl) (fun _ _ _ h => h) (Or.inl ⟨by kernel_rfl, fun w _ => rfl⟩) (by assumption) ?_
            try simp only [Act.put, List.setIfInBounds_toArray, List.set_cons_zero, List.set_cons_succ]
            refine wpAnyH_take (i := 6) (oi := ⟨some 121, _, _, _, _, _⟩) (v := .pointer (some ⟨p, 0, none⟩)) rfl (by kernel_rfl) (by kernel_rfl) (by kernel_rfl) (fun _ _ _ h => h) (Or.inl ⟨by kernel_rfl, by intro w _; go_simp; (try omega)⟩) (by assumption) ?_
            try simp only [Act.put, List.setIfInBounds_toArray, List.set_cons_zero, List.set_cons_succ]
            refine wpAnyH_take (i := 7) (oi := ⟨some 122, _, _, _, _, _⟩) (v := .int .i64 what) rfl (by kernel_rfl) (by kernel_rfl) (by kernel_rfl) (fun _ _ _ h => h) (Or.inl ⟨by kernel_rfl, by intro w hSw; obtain ⟨s1, s2, s3⟩ := hSw; go_simp⟩) (by assumption) ?_
            try simp only [Act.put, List.setIfInBounds_toArray, List.set_cons_zero, List.set_cons_succ]
            refine wpAnyH_take (i := 8) (oi := ⟨some 123, _, _, _, _, _⟩) (v := .bool true) rfl (by kernel_rfl) (by kernel_rfl) (by kernel_rfl) (fun _ _ _ h => h) (Or.inl ⟨by kernel_rfl, by intro w _; go_simp; (try omega)⟩) (by assumption) ?_
            try simp only [Act.put, List.setIfInBounds_toArray, List.set_cons_zero, List.set_cons_succ]
            refine wpAnyH_take (i := 9) (oi := ⟨some 124, _, _, _, _, _⟩) (v := .bool true) rfl (by kernel_rfl) (by kernel_rfl) (by kernel_rfl) (fun _ _ _ h => h) (Or.inl ⟨by kernel_rfl, by intro w _; go_simp; (try omega)⟩) (by assumption) ?_
            try simp only [Act.put, List.setIfInBounds_toArray, List.set_cons_zero, List.set_cons_succ]
            refine wpAnyH_take (i := 10) (oi := ⟨some 125, _, _, _, _, _⟩) (v := .bool true) rfl (by kernel_rfl) (by kernel_rfl) (by kernel_rfl) (fun _ _ _ h => h) (Or.inl ⟨by kernel_rfl, fun w _ => rfl⟩) (by assumption) ?_
            try simp only [Act.put, List.setIfInBounds_toArray, List.set_cons_zero, List.set_cons_succ]
            refine wpAnyH_take (i := 11) (oi := ⟨some 126, _, _, _, _, _⟩) (v := .pointer (some ⟨g, 0, none⟩)) rfl (by kernel_rfl) (by kernel_rfl) (by kernel_rfl) (fun _ _ _ h => h) (Or.inl ⟨by kernel_rfl, fun w _ => rfl⟩) (by assumption) ?_
            try simp only [Act.put, List.setIfInBounds_toArray, List.set_cons_zero, List.set_cons_succ]
            refine wpAnyH_take (i := 13) (oi := ⟨some 128, _, _, _, _, _⟩) (v := .pointer (some ⟨g, 0, none⟩)) rfl (by kernel_rfl) (by kernel_rfl) (by kernel_rfl) (fun _ _ _ h => h) (Or.inl ⟨by kernel_rfl, fun w _ => rfl⟩) (by assumption) ?_
            try simp only [Act.put, List.setIfInBounds_toArray, List.set_cons_zero, List.set_cons_succ]
            refine wpAnyH_take (i := 14) (oi := ⟨some 129, _, _, _, _, _⟩) (v := .pointer (some ⟨g, 0, none⟩)) rfl (by kernel_rfl) (by kernel_rfl) (by kernel_rfl) (fun _ _ _ h => h) (Or.inl ⟨by kernel_rfl, by intro w _; go_simp; (try omega)⟩) (by assumption) ?_
            try simp only [Act.put, List.setIfInBounds_toArray, List.set_cons_zero, List.set_cons_succ]
            refine wpAnyH_take (i := 15) (oi := ⟨some 130, _, _, _, _, _⟩) (v := .pointer (some ⟨g, 2, none⟩)) rfl (by kernel_rfl) (by kernel_rfl) (by kernel_rfl) (fun _ _ _ h => h) (Or.inl ⟨by kernel_rfl, by intro w _; go_simp; (try omega)⟩) (by assumption) ?_
            try simp only [Act.put, List.setIfInBounds_toArray, List.set_cons_zero, List.set_cons_succ]
            refine wpAnyH_take (i := 16) (oi := ⟨some 131, _, _, _, _, _⟩) (v := .slice va n vc) rfl (by kernel_rfl) (by kernel_rfl) (by kernel_rfl) (fun _ _ _ h => h) (Or.inl ⟨by kernel_rfl, by intro w hSw; obtain ⟨s1, s2, s3⟩ := hSw; go_simp⟩) (by assumption) ?_
            try simp only [Act.put, List.setIfInBounds_toArray, List.set_cons_zero, List.set_cons_succ]
            refine wpAnyH_ready (rs := [12]) (by kernel_rfl) (by simp) ?_
            refine AllReadyH.cons (o := ⟨some 127, _, _, _, _, _⟩) rfl (fun K hK => ?_) AllReadyH.nil
            go_simp
            go_at_call 15
            refine (seen_any JK HGe.out.at_ hn480 HGe.out.di HGe.out.ji HRD.out).mono ?_
            rintro e w9 ⟨v9, rfl, hO9, hb9⟩
            obtain ⟨g9, c9, rfl, hgc9, hOV⟩ := ownV_form hO9 hnp hb9
            have HG9 := Lib.hid (HGe.out.later JK hb9)
            have HB9 := Lib.hid (HBe.out.trans (hb9.mono HGe.out.lo_le))
            have HS9 := Lib.hid (SIs.of_own hOV (readS_length M _ _ n) (by omega))
            clear hO9 hb9 hOV hgc9
            refine hK.out _ _ ?_ (fun hHeld1 => ?_)
            · exact ⟨HG9.out.at_.2.2.2.2.1, (HG9.out.cell 0).trans HZ.out.1, HG9.out.at_.2.2.1⟩
            clear hK K
            try simp only [Act.put, List.setIfInBounds_toArray, List.set_cons_zero, List.set_cons_succ]
            refine wpAnyH_ready (rs := [17]) (by kernel_rfl) (by simp) ?_
            refine AllReadyH.cons (o := ⟨some 132, _, _, _, _, _⟩) rfl (fun K hK => ?_) AllReadyH.nil
            go_simp
            go_at_call 14
            refine (RSame16_any _ HS9.out HG9.out.now).mono ?_
            rintro e w10 ⟨rfl, hb10⟩
            rw [sameD_true HSM.out]
            have HG10 := Lib.hid (HG9.out.later JK hb10)
            have HB10 := Lib.hid (HB9.out.trans (hb10.mono HG9.out.lo_le))
            clear hb10
            refine hK.out _ _ ?_ (fun hHeld2 => ?_)
            · exact ⟨HG10.out.at_.2.2.2.2.1, (HG10.out.cell 0).trans HZ.out.1, HG10.out.at_.2.2.1⟩
            clear hK K
            try simp only [Act.put, List.setIfInBounds_toArray, List.set_cons_zero, List.set_cons_succ]
            refine wpAnyH_take (i := 18) (oi := ⟨some 133, _, _, _, _, _⟩) (v := .bool false) rfl (by kernel_rfl) (by kernel_rfl) (by kernel_rfl) (fun _ _ _ h => h) (Or.inl ⟨by kernel_rfl, by intro w _; go_simp; (try omega)⟩) (by assumption) ?_
            try simp only [Act.put, List.setIfInBounds_toArray, List.set_cons_zero, List.set_cons_succ]
            refine wpAnyH_take (i := 19) (oi := ⟨some 134, _, _, _, _, _⟩) (v := .bool false) rfl (by kernel_rfl) (by kernel_rfl) (by kernel_rfl) (fun _ _ _ h => h) (Or.inl ⟨by kernel_rfl, by intro w _; go_simp; (try omega)⟩) (by assumption) ?_
            try simp only [Act.put, List.setIfInBounds_toArray, List.set_cons_zero, List.set_cons_succ]
            refine wpAnyH_done (by kernel_rfl) ?_ _
            go_wp2_with fail
            go_roundw
            case rel => exact ⟨i + 1, by go_num, by omega, by omega, Lib.hid (PlayRel.next K HG10.out ⟨HN2.out, Or.inl ⟨rfl, rfl, HLV.out⟩⟩ (Nat.le_succ_of_le HKI.out) HB10.out (Below.refl _ _))⟩
            case measure => simp [intOf]; omega
          · go_region
            go_wp2_with fail
            go_roundw
            case rel => exact ⟨i + 1, by go_num, by omega, by omega, Lib.hid (PlayRel.next K HG2.out ⟨HN2.out, Or.inl ⟨rfl, rfl, HLV.out⟩⟩ (Nat.le_succ_of_le HKI.out) B2.out (Below.refl _ _).drew)⟩
            case measure => simp [intOf]; omega

end Go.Proofs.Ytbnepjojfaeggaa
