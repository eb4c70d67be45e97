/-
  Proved here: what JournalAgain answers, of a journal that answers as JournalOk, JournalGood and JournalOnce say.
  The conditions stand at each theorem.
-/
import Derived.Test.YtbnepjojfaeggaaPad16
import Derived.WalkKit
import Derived.BigQuiet
import Derived.Deep.RegionWith
import Derived.StillTailTactics
namespace Go.Proofs.Ytbnepjojfaeggaa
open Go.RowKit
set_option linter.unusedVariables false
set_option linter.unusedSimpArgs false

/-- What was opened is as Look told it; opened again it is so again. -/
structure JournalOnce (M : JM) : Prop where
  again : ∀ D : DM, D.n = 480 → D.left < 0 → D.off = false → D.Ok → smallD D → (M.lookP D).2 = (M.openP D).2.2 ∧ (((M.lookP D).2 ≠ 0 ∧ (M.openP D).2.1 = none) ∨ ((M.lookP D).2 = 0 ∧ (M.lookP D).1.length = 480 ∧ ∃ s, (M.openP D).2.1 = some s ∧
    ∀ ks, smallD (restarted (M.openP D).1 ks) ∧ ∃ D4 s2, M.openP (restarted (M.openP D).1 ks) = (D4, some s2, 0) ∧ M.headP s2 = M.headP s ∧ ∀ i : Nat, i < 480 → (M.readP D4 s2 (i : Int)).2 = 0 ∧ (i ≠ 1 → (M.lookP D).1[i]? = some (M.readP D4 s2 (i : Int)).1)))

/-- A disk that is being laid: i blocks. -/
def Laying (w : World) (a : Addr) (i : Nat) (wr : World) : Prop :=
  ∃ F D, DI wr a F D ∧ (∀ k, F k → w.heap.size ≤ k) ∧ D.n = 480 ∧ D.left < 0 ∧ D.off = false ∧ D.Ok ∧ (∀ k, (D.hist k).length ≤ 1 + i) ∧ Below w.heap.size w wr

theorem put_lay {D : DM} {i : Nat} {y : List Int} (h1 : D.n = 480) (hl : D.left < 0) (ho : D.off = false) (hi : i < 480) (hy : y.length = 64) : putRes D [((i : Int), y)] = (addW (step1 D) i y, 0) := by
  unfold putRes
  rw [if_neg (show ¬ D.off = true from fun h => by rw [ho] at h; cases h)]
  have e1 : badLen [((i : Int), y)] = false := by
    unfold badLen
    simp only [List.any_cons, List.any_nil, Bool.or_false]
    exact decide_eq_false (fun h => h hy)
  have e2 : badAt D.n [((i : Int), y)] = false := by
    unfold badAt
    simp only [List.any_cons, List.any_nil, Bool.or_false]
    exact decide_eq_false (by rw [h1]; show ¬ ((i : Int) < 0 ∨ ((480 : Nat) : Int) ≤ (i : Int)); omega)
  rw [e1, e2]
  show (if D.left = 0 then (gone D, (8 : Int)) else putAll (addW (step1 D) ((i : Int)).toNat y) []) = _
  rw [if_neg (by omega), Int.toNat_natCast]
  rfl
theorem lay_ok {D : DM} {i : Nat} {y : List Int} (hk : D.Ok) (hl : D.left < 0) (hy : y.length = 64) (hb : ∀ z ∈ y, 0 ≤ z ∧ z ≤ 255) (hh : ∀ k, (D.hist k).length ≤ 1 + i) : (addW (step1 D) i y).Ok ∧ (addW (step1 D) i y).left < 0 ∧ ∀ k, ((addW (step1 D) i y).hist k).length ≤ 1 + (i + 1) := by
  refine ⟨fun k => ?_, ?_, fun k => ?_⟩
  · show (if k = i then D.hist k ++ [y] else D.hist k) ≠ [] ∧ ∀ c ∈ (if k = i then D.hist k ++ [y] else D.hist k), _
    by_cases e : k = i
    · simp only [if_pos e]
      refine ⟨by simp, fun c hc => ?_⟩
      rcases List.mem_append.1 hc with hc | hc
      · exact (hk k).2 c hc
      · rw [List.mem_singleton.1 hc]; exact ⟨hy, hb⟩
    · simp only [if_neg e]; exact hk k
  · show (if 0 < D.left then D.left - 1 else D.left) < 0
    rw [if_neg (by omega)]; exact hl
  · show (if k = i then D.hist k ++ [y] else D.hist k).length ≤ _
    have := hh k
    by_cases e : k = i
    · rw [if_pos e, List.length_append]; simp only [List.length_cons, List.length_nil]; omega
    · rw [if_neg e]; omega
theorem fresh_lay (w w' : World) {F : Nat → Prop} {a : Addr} (h : DI w' a F (freshD 480)) (hF : ∀ k, F k → w.heap.size ≤ k) (hb : Below w.heap.size w w') : Laying w a 0 w' :=
  ⟨F, freshD 480, h, hF, rfl, by decide, rfl, fun k => ⟨by simp [freshD], fun c hc => by
    rw [List.mem_singleton.1 hc]
    exact ⟨rfl, fun z hz => by rw [List.eq_of_mem_replicate hz]; omega⟩⟩, fun k => Nat.le_refl _, hb⟩
/-- The blocks from base to top lie outside F, and hold what they held. -/
def Away (F : Nat → Prop) (base top : Nat) (w0 w : World) : Prop := (∀ k, F k → k < base ∨ top ≤ k) ∧ (∀ k, base ≤ k → k < top → w.heap[k]? = w0.heap[k]?) ∧ top ≤ w.heap.size
theorem Away.grew {F F' : Nat → Prop} {base top : Nat} {w0 w w' : World} (h : Away F base top w0 w) (hg : Grew F F' w w') : Away F' base top w0 w' :=
  ⟨fun k hk => (hg.2.2.2.2.2 k hk).elim (h.1 k) (fun h2 => Or.inr (Nat.le_trans h.2.2 h2)), fun k h1 h2 => by rw [grew_kept hg (Nat.lt_of_lt_of_le h2 h.2.2) (fun hf => (h.1 k hf).elim (fun h3 => by omega) (fun h3 => by omega))]; exact h.2.1 k h1 h2, Nat.le_trans h.2.2 hg.2.2.2.1⟩
theorem Away.later {F : Nat → Prop} {base top : Nat} {w0 w w' : World} (h : Away F base top w0 w) (hb : Below w.heap.size w w') : Away F base top w0 w' :=
  ⟨h.1, fun k h1 h2 => by rw [hb.block k (Nat.lt_of_lt_of_le h2 h.2.2)]; exact h.2.1 k h1 h2, Nat.le_trans h.2.2 hb.size⟩
/-- Behind the openings of JournalAgain: what is read, block by block. -/
def AgainEnd (M : JM) (JI : World → Addr → Addr → (Nat → Prop) → M.S → Prop) (w : World) (a j : Addr) (F G : Nat → Prop) (base top : Nat) (w6 : World) (D : DM) (s : M.S) (wr : World) : Prop :=
  DI wr a F D ∧ JI wr j a G s ∧ Away F base top w6 wr ∧ Below w.heap.size w wr
theorem AgainEnd.later {M : JM} {JI : World → Addr → Addr → (Nat → Prop) → M.S → Prop} {w : World} {a j : Addr} {F G : Nat → Prop} {base top : Nat} {w6 : World} {D : DM} {s : M.S} {wr w' : World} (h : AgainEnd M JI w a j F G base top w6 D s wr) (K : JournalOk M JI) (hb : Below wr.heap.size wr w') : AgainEnd M JI w a j F G base top w6 D s w' :=
  ⟨diskOk.later h.1 hb, K.kept h.2.1 (fun k hk => hb.block k (K.lt h.2.1 k hk)) hb.size, h.2.2.1.later hb, h.2.2.2.trans (hb.mono h.2.2.2.size)⟩

set_option maxRecDepth 100000 in
set_option maxHeartbeats 6400000 in
theorem again16_any {M : JM} {JI : World → Addr → Addr → (Nat → Prop) → M.S → Prop} (K : JournalOk M JI) (Q : JournalGood M) (R : JournalOnce M) (w : World) (a0 a1 : Option Addr) (len0 cap0 len1 cap1 : Nat) (z0 : List (List Int)) (ks : List Int) (hcp : cap0 ≤ 140737488351232) (hT : RowsIn w a0 len0 cap0 z0) (hK : NumsAre w (fun k => k < w.heap.size) a1 len1 ks) :
    Calls Try.prog 6 #[.slice a0 len0 cap0, .slice a1 len1 cap1] w fun e w' => e = .returned (.bool true) ∧ Below w.heap.size w w' := by
  have c := diskOk.new_ok 480 w (by decide) (by decide)
  rw [show ((480 : Nat) : Int) = 480 from rfl] at c
  have HT := Lib.hid hT
  have HK := Lib.hid hK
  have HCP := Lib.hid hcp
  clear hT hK hcp
  go_enter Try.func6, Try.ntmps6
  go_wp2_with (first
    | (go_at_call 8; refine (awake16_any K Q w1).mono ?_; rintro e w2 ⟨rfl, hb2⟩; have HD2 := Lib.hid (diskOk.later HD1.out hb2); have B2 := Lib.hid (B1.out.trans (hb2.mono B1.out.size)); clear hb2)
    | (go_at_call 19; refine c.mono ?_; rintro e w1 ⟨a, F, rfl, hD, hF, hb1⟩; have HD1 := Lib.hid hD; have HF := Lib.hid hF; have B1 := Lib.hid hb1; clear hD hF hb1))
  go_loopw [7] (fun iv wr => ∃ i : Nat, iv = .int .i64 (i : Int) ∧ i ≤ 480 ∧ Hid (Laying w a i wr)) (fun iv _ => 481 - (intOf iv).toNat)
  case atStart => exact ⟨0, rfl, Nat.zero_le _, Lib.hid (fresh_lay w w2 HD2.out HF.out B2.out)⟩
  case round =>
    clear HD2 HD1 B1 B2 HF c
    clear F
    obtain ⟨i, rfl, hi, HR⟩ := hrel
    obtain ⟨F, D, hD, hF, hn, hl, ho, hok, hh, hB⟩ := HR.out
    have hTb : len0 ≤ 140737488351232 := Nat.le_trans HT.out.2.1 HCP.out
    by_cases hlt : i < len0 ∧ i < 480
    · obtain ⟨h0, h2⟩ := hlt
      have i0 : (i : Int) < (len0 : Int) := by omega
      have i2 : (i : Int) < 480 := by omega
      obtain ⟨b0, o0, ad, l, c, rfl, hc0, hBt⟩ := HT.out.at h0
      obtain ⟨tx, htx⟩ : ∃ tx, z0.getD i [] = tx := ⟨_, rfl⟩
      rw [htx] at hBt
      obtain ⟨W1, hmk, hO1⟩ := made64 wr
      obtain ⟨p, hp⟩ : ∃ p, wr.heap.size = p := ⟨_, rfl⟩
      rw [hp] at hmk hO1
      have bW1 : Below wr.heap.size wr W1 := by rw [hp]; exact hO1.2.2.2.2
      have e0 := cell_later bW1 (cell_later hB hc0)
      have HBt := Lib.hid ((hBt.later hB).later bW1)
      have HO1 := Lib.hid hO1
      have HP := Lib.hid hp
      have HD := Lib.hid hD
      have HF := Lib.hid hF
      have HB := Lib.hid hB
      have HX := Lib.hid (And.intro hn (And.intro hl (And.intro ho (And.intro hok hh))))
      obtain ⟨y, hy⟩ : ∃ y, pad64 tx = y := ⟨_, rfl⟩
      have HYL : Hid (y.length = 64) := Lib.hid (by rw [← hy]; exact pad_length tx)
      have hcy := own_copy_min HO1.out ad l c tx HBt.out 3
      rw [hy] at hcy
      have HCY := Lib.hid hcy
      have HPR := Lib.hid (put_lay hn hl ho h2 HYL.out)
      clear hc0 hBt htx hO1 bW1 hp hD hF hB hn hl ho hok hh hy hcy HR
      go_wp2_with (first
        | (go_at_call 23; obtain ⟨W4, hW4⟩ : ∃ W4, w3.alloc (.cells #[.int .i64 (i : Int), .slice (some ⟨p, 0, none⟩) 64 64] 48) = W4 := ⟨_, rfl⟩; have hA3 : Arg w3 (some ⟨p, 0, none⟩) 64 64 y := own_arg HO3.out HYL.out; have hps : p ≤ w3.heap.size := below_size_of HO3.out.2.2.2.2 HP.out; have hL4 := list_one (T := 48) (G := fun k => p ≤ k) (x := (i : Int)) hA3 (by omega) (fun b o s h => by cases h; exact Nat.le_refl _) hps; have b4 : Below w3.heap.size w3 W4 := (by rw [← hW4]; exact (Below.refl _ _).alloc (Nat.le_refl _) _); rw [hW4] at hL4; rw [hW4]; have HB4 := Lib.hid (HB3.out.trans (b4.mono HB3.out.size)); refine (diskOk.put (fun k => p ≤ k) (some ⟨w3.heap.size, 0, none⟩) 1 1 [((i : Int), y)] (diskOk.later HD3.out b4) hL4 (fun k hk h => by have := diskOk.lt HD.out k hk; have := HP.out; omega) (fun k _ => by have := HX.out.2.2.2.2 k; show _ + 1 ≤ _; omega)).mono ?_; rintro e w5 ⟨F5, rfl, hD5, hg5⟩; rw [HPR.out] at hD5; rw [HPR.out]; have HD5 := Lib.hid hD5; have HB5 := Lib.hid (hg5.below HB4.out HB4.out.size HF.out); have HF5 : Hid (∀ k, F5 k → w.heap.size ≤ k) := Lib.hid (fun k hk => (hg5.2.2.2.2.2 k hk).elim (HF.out k) (fun h => Nat.le_trans HB4.out.size h)); clear hA3 hL4 hW4 hps b4 hD5 hg5)
        | (refine wp_copy rfl (.tmp 43) (.tmp 47) 46 46 rfl _ _ rfl rfl _ HCY.out ?_; intro v3 w3 hO3; have HO3 := Lib.hid hO3; have HD3 := Lib.hid (diskOk.later HD.out (by rw [HP.out]; exact hO3.2.2.2.2)); have HB3 := Lib.hid (HB.out.trans ((by rw [HP.out]; exact hO3.2.2.2.2 : Below wr.heap.size wr w3).mono HB.out.size)); clear hO3))
      go_roundw
      case rel =>
        have h5 := lay_ok HX.out.2.2.2.1 HX.out.2.1 HYL.out HO3.out.1 HX.out.2.2.2.2
        exact ⟨i + 1, by go_num, by omega, Lib.hid ⟨F5, _, HD5.out, HF5.out, HX.out.1, h5.2.1, HX.out.2.2.1, h5.1, h5.2.2, HB5.out⟩⟩
      case measure => simp [intOf]; omega
    · have HD := Lib.hid hD
      have HF := Lib.hid hF
      have HB := Lib.hid hB
      have hsm : smallD D := fun k => by have := hh k; omega
      have HSM := Lib.hid hsm
      obtain ⟨hfg, hag⟩ := R.again D hn hl ho hok hsm
      have hends : ¬ (i : Int) < (len0 : Int) ∨ ((i : Int) < (len0 : Int) ∧ ¬ (i : Int) < 480) := by omega
      obtain ⟨⟨rows, f⟩, hLK⟩ : ∃ r, M.lookP D = r := ⟨_, rfl⟩
      obtain ⟨⟨D2, o2, f2⟩, hOP⟩ : ∃ r, M.openP D = r := ⟨_, rfl⟩
      rw [hLK, hOP] at hag hfg
      simp only at hag hfg
      subst hfg
      have HLK := Lib.hid hLK
      have HOP := Lib.hid hOP
      clear hD hF hB hn hl ho hok hh hsm hLK hOP hlt HR
      rcases hag with ⟨hne, rfl⟩ | ⟨rfl, hlen, s, rfl, hag⟩
      · rcases hends with c1 | ⟨c1, c2⟩
        all_goals
          go_wp2_with (first
            | (go_at_call 17; refine (K.opens HD6.out HSM.out).mono ?_; rintro e w7 ⟨F7, p7, rfl, hD7, hg7, hp7, _⟩; rw [HOP.out] at hD7 hp7; have hp7 := hp7 rfl; subst hp7; rw [HOP.out]; have HB7 := Lib.hid (hg7.below HB6.out HB6.out.size HF.out); clear hD7 hg7)
            | (go_at_call 21; refine (K.look HD.out HSM.out).mono ?_; rintro e w6 ⟨ao6, l6, c6, rfl, hR6, hb6⟩; rw [HLK.out] at hR6; rw [HLK.out]; have HD6 := Lib.hid (diskOk.later HD.out hb6); have HB6 := Lib.hid (HB.out.trans (hb6.mono HB.out.size)); clear hR6 hb6))
          go_ret
          exact ⟨rfl, HB7.out⟩
      · have HAG := Lib.hid (hag ks)
        obtain ⟨hsr, D4, s2, ho4, hh4, hrd⟩ := HAG.out
        obtain ⟨⟨ha, hb⟩, hHP⟩ : ∃ r, M.headP s = r := ⟨_, rfl⟩
        rw [hHP] at hh4
        have HHP := Lib.hid hHP
        clear hHP
        have HSR := Lib.hid hsr
        have HO4 := Lib.hid ho4
        have HH4 := Lib.hid hh4
        have HRD := Lib.hid hrd
        have HLN := Lib.hid hlen
        clear hsr ho4 hh4 hrd hag hlen HAG
        rcases hends with c1 | ⟨c1, c2⟩
        all_goals
          go_wp2_with (first
            | (go_at_call 20; refine (K.head HK10.out).mono ?_; rintro e w11 ⟨rfl, hb11⟩; rw [HHP.out]; have HD11 := Lib.hid (diskOk.later HD10.out hb11); have HJ11 := Lib.hid (K.kept HJ10.out (fun k hk => hb11.block k (K.lt HJ10.out k hk)) hb11.size); have HAW11 := Lib.hid (HAW10.out.later hb11); have HB11 := Lib.hid (HB10.out.trans (hb11.mono HB10.out.size)); clear hb11)
            | (go_at_call 20; refine (K.head HJ9.out).mono ?_; rintro e w10 ⟨rfl, hb10⟩; rw [HH4.out]; have HD10 := Lib.hid (diskOk.later HD9.out hb10); have HJ10 := Lib.hid (K.kept HJ9.out (fun k hk => hb10.block k (K.lt HJ9.out k hk)) hb10.size); have HK10 := Lib.hid (K.kept HK9.out (fun k hk => hb10.block k (K.lt HK9.out k hk)) hb10.size); have HAW10 := Lib.hid (HAW9.out.later hb10); have HB10 := Lib.hid (HB9.out.trans (hb10.mono HB9.out.size)); clear hb10)
            | (go_at_call 17; refine (K.opens HD8.out HSR.out).mono ?_; rintro e w9 ⟨F9, p9, rfl, hD9, hg9, _, hp9⟩; rw [HO4.out] at hD9 hp9; obtain ⟨j9, G9, rfl, hJ9, _, hJF9⟩ := hp9 s2 rfl; rw [HO4.out]; have HD9 := Lib.hid hD9; have HJ9 := Lib.hid hJ9; have HB9 := Lib.hid (hg9.below HB8.out HB8.out.size HF8.out); have HAW9 := Lib.hid (HAW8.out.grew hg9); have HK9 := Lib.hid (K.kept HJ8.out (fun k hk => grew_kept hg9 (K.lt HJ8.out k hk) (HJF8.out k hk)) hg9.2.2.2.1); clear hD9 hg9 hJ9 hJF9 hp9)
            | (go_at_call 16; refine (diskOk.restart (fun k => k < w.heap.size) a1 len1 cap1 ks HD7.out (HK.out.under HB7.out) (fun k hk h => by have := HF7.out k hk; omega)).mono ?_; rintro e w8 ⟨F8, rfl, hD8, hg8⟩; have HD8 := Lib.hid hD8; have HG8 := Lib.hid hg8; have HB8 := Lib.hid (hg8.below HB7.out HB7.out.size HF7.out); have HF8 : Hid (∀ k, F8 k → w.heap.size ≤ k) := Lib.hid (fun k hk => (hg8.2.2.2.2.2 k hk).elim (HF7.out k) (fun h => Nat.le_trans HB7.out.size h)); have HAW8 := Lib.hid (HAW7.out.grew hg8); have HJ8 := Lib.hid (K.kept HJ7.out.1 (fun k hk => grew_kept hg8 (K.lt HJ7.out.1 k hk) (HJ7.out.2 k hk)) hg8.2.2.2.1); have HJF8 : Hid (∀ k, G7 k → ¬ F8 k) := Lib.hid (fun k hk hf => (hg8.2.2.2.2.2 k hf).elim (HJ7.out.2 k hk) (fun h => by have := K.lt HJ7.out.1 k hk; omega)); clear hD8 hg8)
            | (go_at_call 17; refine (K.opens HD6.out HSM.out).mono ?_; rintro e w7 ⟨F7, p7, rfl, hD7, hg7, _, hp7⟩; rw [HOP.out] at hD7 hp7; obtain ⟨j7, G7, rfl, hJ7, _, hJF7⟩ := hp7 s rfl; rw [HOP.out]; have HD7 := Lib.hid hD7; have HJ7 := Lib.hid (And.intro hJ7 hJF7); have HB7 := Lib.hid (hg7.below HB6.out HB6.out.size HF.out); have HF7 : Hid (∀ k, F7 k → w.heap.size ≤ k) := Lib.hid (fun k hk => (hg7.2.2.2.2.2 k hk).elim (HF.out k) (fun h => Nat.le_trans HB6.out.size h)); have HAW7 := Lib.hid (HAW6.out.grew hg7); clear hD7 hg7 hJ7 hJF7 hp7)
            | (go_at_call 21; refine (K.look HD.out HSM.out).mono ?_; rintro e w6 ⟨ao6, l6, c6, rfl, hR6, hb6⟩; rw [HLK.out] at hR6; rw [HLK.out]; have HD6 := Lib.hid (diskOk.later HD.out hb6); have HB6 := Lib.hid (HB.out.trans (hb6.mono HB.out.size)); have HR6 := Lib.hid hR6; have HAW6 : Hid (Away F wr.heap.size w6.heap.size w6 w6) := Lib.hid ⟨fun k hk => Or.inl (diskOk.lt HD.out k hk), fun _ _ _ => rfl, Nat.le_refl _⟩; clear hR6 hb6))
          obtain ⟨wr0, hwr0⟩ : ∃ w0, w0 = wr := ⟨_, rfl⟩
          rw [← hwr0] at HAW11
          rw [← hwr0] at HR6
          have HE11 : Hid (AgainEnd M JI w a j9 F9 G9 wr0.heap.size w6.heap.size w6 D4 s2 w11) := Lib.hid ⟨HD11.out, HJ11.out, HAW11.out, HB11.out⟩
          clear hwr0
          go_loopw [15] (fun nv wq => ∃ n : Nat, nv = .int .i64 (n : Int) ∧ n ≤ 480 ∧ Hid (AgainEnd M JI w a j9 F9 G9 wr0.heap.size w6.heap.size w6 D4 s2 wq)) (fun nv _ => 481 - (intOf nv).toNat)
          case atStart => exact ⟨0, rfl, Nat.zero_le _, HE11⟩
          case round =>
            clear HE11 HD11 HJ11 HAW11 HB11 HD10 HJ10 HK10 HAW10 HB10 HD9 HJ9 HB9 HAW9 HK9 HD8 HB8 HF8 HAW8 HJ8 HJF8 HD7 HJ7 HB7 HF7 HAW7 HD6 HB6 HAW6
            clear HD HF HB c1
            obtain ⟨n, rfl, hn, HE⟩ := hrel
            by_cases hn1 : n < 480
            · have n1 : (n : Int) < 480 := by omega
              have n0 : (0 : Int) ≤ (n : Int) := by omega
              have hrd := HRD.out n hn1
              have cR := K.read (n : Int) HE.out.1 HE.out.2.1 (by unfold I64; omega) (by rw [hrd.1]; decide)
              obtain ⟨⟨rb, re⟩, hrr⟩ : ∃ r, M.readP D4 s2 (n : Int) = r := ⟨_, rfl⟩
              rw [hrr] at hrd cR
              simp only at hrd cR
              obtain ⟨rfl, hxs⟩ := hrd
              clear hrr
              by_cases h1 : n = 1
              · subst h1
                clear hxs
                go_wp2_with (first | (go_at_call 18; refine cR.mono ?_; rintro e w12 ⟨v12, rfl, ⟨ao12, p12, rfl, hA12, hf12⟩, hb12⟩; have HE12 : Hid (AgainEnd M JI w a j9 F9 G9 wr0.heap.size w6.heap.size w6 D4 s2 w12) := Lib.hid (HE.out.later K hb12); clear hA12 hf12 hb12))
                refine wp_region_held_drew (S := fun _ => True) (by kernel_rfl) trivial (fun hHeld => ?_)
                refine wpAnyH_take (i := 0) (oi := ⟨some 115, _, _, _, _, _⟩) (v := .int .i64 0) rfl (by kernel_rfl) (by kernel_rfl) (by kernel_rfl) (fun _ _ _ h => h) (Or.inl ⟨by kernel_rfl, fun w _ => rfl⟩) (by assumption) ?_
                try simp only [Act.put, List.setIfInBounds_toArray, List.set_cons_zero, List.set_cons_succ]
                refine wpAnyH_take (i := 1) (oi := ⟨some 116, _, _, _, _, _⟩) (v := .bool false) rfl (by kernel_rfl) (by kernel_rfl) (by kernel_rfl) (fun _ _ _ h => h) (Or.inl ⟨by kernel_rfl, by intro w _; go_simp; (try omega)⟩) (by assumption) ?_
                try simp only [Act.put, List.setIfInBounds_toArray, List.set_cons_zero, List.set_cons_succ]
                refine wpAnyH_take (i := 2) (oi := ⟨some 117, _, _, _, _, _⟩) (v := .bool false) rfl (by kernel_rfl) (by kernel_rfl) (by kernel_rfl) (fun _ _ _ h => h) (Or.inl ⟨by kernel_rfl, fun w _ => rfl⟩) (by assumption) ?_
                try simp only [Act.put, List.setIfInBounds_toArray, List.set_cons_zero, List.set_cons_succ]
                refine wpAnyH_take (i := 3) (oi := ⟨some 118, _, _, _, _, _⟩) (v := .int .i64 1) rfl (by kernel_rfl) (by kernel_rfl) (by kernel_rfl) (fun _ _ _ h => h) (Or.inl ⟨by kernel_rfl, fun w _ => rfl⟩) (by assumption) ?_
                try simp only [Act.put, List.setIfInBounds_toArray, List.set_cons_zero, List.set_cons_succ]
                refine wpAnyH_take (i := 4) (oi := ⟨some 119, _, _, _, _, _⟩) (v := .bool false) rfl (by kernel_rfl) (by kernel_rfl) (by kernel_rfl) (fun _ _ _ h => h) (Or.inl ⟨by kernel_rfl, by intro w _; go_simp; (try omega)⟩) (by assumption) ?_
                try simp only [Act.put, List.setIfInBounds_toArray, List.set_cons_zero, List.set_cons_succ]
                refine wpAnyH_take (i := 5) (oi := ⟨some 120, _, _, _, _, _⟩) (v := .bool false) rfl (by kernel_rfl) (by kernel_rfl) (by kernel_rfl) (fun _ _ _ h => h) (Or.inl ⟨by kernel_rfl, fun w _ => rfl⟩) (by assumption) ?_
                try simp only [Act.put, List.setIfInBounds_toArray, List.set_cons_zero, List.set_cons_succ]
                refine wpAnyH_take (i := 6) (oi := ⟨some 121, _, _, _, _, _⟩) (v := undef) rfl (by kernel_rfl) (by kernel_rfl) (by kernel_rfl) (fun _ _ _ h => h) (Or.inr ⟨by kernel_rfl, rfl⟩) (by assumption) ?_
                try simp only [Act.put, List.setIfInBounds_toArray, List.set_cons_zero, List.set_cons_succ]
                refine wpAnyH_take (i := 7) (oi := ⟨some 122, _, _, _, _, _⟩) (v := undef) rfl (by kernel_rfl) (by kernel_rfl) (by kernel_rfl) (fun _ _ _ h => h) (Or.inr ⟨by kernel_rfl, rfl⟩) (by assumption) ?_
                try simp only [Act.put, List.setIfInBounds_toArray, List.set_cons_zero, List.set_cons_succ]
                refine wpAnyH_take (i := 8) (oi := ⟨some 123, _, _, _, _, _⟩) (v := undef) rfl (by kernel_rfl) (by kernel_rfl) (by kernel_rfl) (fun _ _ _ h => h) (Or.inr ⟨by kernel_rfl, rfl⟩) (by assumption) ?_
                try simp only [Act.put, List.setIfInBounds_toArray, List.set_cons_zero, List.set_cons_succ]
                refine wpAnyH_take (i := 9) (oi := ⟨some 124, _, _, _, _, _⟩) (v := undef) rfl (by kernel_rfl) (by kernel_rfl) (by kernel_rfl) (fun _ _ _ h => h) (Or.inr ⟨by kernel_rfl, rfl⟩) (by assumption) ?_
                try simp only [Act.put, List.setIfInBounds_toArray, List.set_cons_zero, List.set_cons_succ]
                refine wpAnyH_take (i := 10) (oi := ⟨some 125, _, _, _, _, _⟩) (v := undef) rfl (by kernel_rfl) (by kernel_rfl) (by kernel_rfl) (fun _ _ _ h => h) (Or.inr ⟨by kernel_rfl, rfl⟩) (by assumption) ?_
                try simp only [Act.put, List.setIfInBounds_toArray, List.set_cons_zero, List.set_cons_succ]
                refine wpAnyH_take (i := 11) (oi := ⟨some 126, _, _, _, _, _⟩) (v := undef) rfl (by kernel_rfl) (by kernel_rfl) (by kernel_rfl) (fun _ _ _ h => h) (Or.inr ⟨by kernel_rfl, rfl⟩) (by assumption) ?_
                try simp only [Act.put, List.setIfInBounds_toArray, List.set_cons_zero, List.set_cons_succ]
                refine wpAnyH_take (i := 12) (oi := ⟨some 127, _, _, _, _, _⟩) (v := undef) rfl (by kernel_rfl) (by kernel_rfl) (by kernel_rfl) (fun _ _ _ h => h) (Or.inr ⟨by kernel_rfl, rfl⟩) (by assumption) ?_
                try simp only [Act.put, List.setIfInBounds_toArray, List.set_cons_zero, List.set_cons_succ]
                refine wpAnyH_take (i := 13) (oi := ⟨some 128, _, _, _, _, _⟩) (v := undef) rfl (by kernel_rfl) (by kernel_rfl) (by kernel_rfl) (fun _ _ _ h => h) (Or.inr ⟨by kernel_rfl, rfl⟩) (by assumption) ?_
                try simp only [Act.put, List.setIfInBounds_toArray, List.set_cons_zero, List.set_cons_succ]
                refine wpAnyH_take (i := 14) (oi := ⟨some 129, _, _, _, _, _⟩) (v := .bool false) rfl (by kernel_rfl) (by kernel_rfl) (by kernel_rfl) (fun _ _ _ h => h) (Or.inl ⟨by kernel_rfl, by intro w _; go_simp; (try omega)⟩) (by assumption) ?_
                try simp only [Act.put, List.setIfInBounds_toArray, List.set_cons_zero, List.set_cons_succ]
                refine wpAnyH_take (i := 15) (oi := ⟨some 130, _, _, _, _, _⟩) (v := .bool false) rfl (by kernel_rfl) (by kernel_rfl) (by kernel_rfl) (fun _ _ _ h => h) (Or.inl ⟨by kernel_rfl, by intro w _; go_simp; (try omega)⟩) (by assumption) ?_
                try simp only [Act.put, List.setIfInBounds_toArray, List.set_cons_zero, List.set_cons_succ]
                refine wpAnyH_done (by kernel_rfl) ?_ _
                go_wp2_with fail
                go_roundw
                case rel => exact ⟨2, by go_num, by omega, Lib.hid (HE12.out.later K (Below.refl _ _).drew)⟩
                case measure => simp [intOf]
              · have hx := hxs h1
                have h2 : ¬ (n : Int) = 1 := by omega
                have hg : rows.getD n [] = rb := by rw [List.getD_eq_getElem?_getD, hx]; rfl
                have HR9 := Lib.hid (HR6.out.kept (fun k h1 h2 => HE.out.2.2.1.2.1 k h1 h2))
                obtain ⟨b6, o6, ad, l, c, rfl, hc1, hB6⟩ := HR9.out.rows.at (i := n) (by rw [← HR9.out.1, HLN.out]; exact hn1)
                rw [hg] at hB6
                have HB6 := Lib.hid hB6
                obtain ⟨Z, hZ⟩ : ∃ Z, str rb = Z := ⟨_, rfl⟩
                have HZ := Lib.hid hZ
                have hs := str_is Z Z
                rw [decide_eq_true rfl] at hs
                have hl6 : (n : Int) < (l6 : Int) := by have h3 := HR9.out.1; rw [HLN.out] at h3; omega
                clear hx hxs hg hB6 hZ
                go_wp2_with (first | (go_at_call 18; refine cR.mono ?_; rintro e w12 ⟨v12, rfl, ⟨ao12, p12, rfl, hA12, hf12⟩, hb12⟩; have hcv := str_bytes (hA12.later (Below.refl _ _).drew).1 (cap := p12); rw [HZ.out] at hcv; have hc2 := cell_later hb12 hc1; have hcw := str_bytes ((HB6.out.later hb12).later (Below.refl _ _).drew) (cap := c); rw [HZ.out] at hcw; have HE12 : Hid (AgainEnd M JI w a j9 F9 G9 wr0.heap.size w6.heap.size w6 D4 s2 w12) := Lib.hid (HE.out.later K hb12); clear hA12 hf12 hb12))
                refine wp_region_held_drew (S := fun W => W.cell? ⟨b6, o6 + n, none⟩ = some (.slice ad l c) ∧ ((convert 46 9 (.slice ao12 rb.length p12)).run Try.prog W = .ok (.string Z) W) ∧ (convert 46 9 (.slice ad l c)).run Try.prog W = .ok (.string Z) W) (by kernel_rfl) ⟨hc2, hcv, hcw⟩ (fun hHeld => ?_)
                refine wpAnyH_take (i := 0) (oi := ⟨some 115, _, _, _, _, _⟩) (v := .int .i64 0) rfl (by kernel_rfl) (by kernel_rfl) (by kernel_rfl) (fun _ _ _ h => h) (Or.inl ⟨by kernel_rfl, fun w _ => rfl⟩) (by assumption) ?_
                try simp only [Act.put, List.setIfInBounds_toArray, List.set_cons_zero, List.set_cons_succ]
                refine wpAnyH_take (i := 1) (oi := ⟨some 116, _, _, _, _, _⟩) (v := .bool false) rfl (by kernel_rfl) (by kernel_rfl) (by kernel_rfl) (fun _ _ _ h => h) (Or.inl ⟨by kernel_rfl, by intro w _; go_simp; (try omega)⟩) (by assumption) ?_
                try simp only [Act.put, List.setIfInBounds_toArray, List.set_cons_zero, List.set_cons_succ]
                refine wpAnyH_take (i := 2) (oi := ⟨some 117, _, _, _, _, _⟩) (v := .bool false) rfl (by kernel_rfl) (by kernel_rfl) (by kernel_rfl) (fun _ _ _ h => h) (Or.inl ⟨by kernel_rfl, fun w _ => rfl⟩) (by assumption) ?_
                try simp only [Act.put, List.setIfInBounds_toArray, List.set_cons_zero, List.set_cons_succ]
                refine wpAnyH_take (i := 3) (oi := ⟨some 118, _, _, _, _, _⟩) (v := .int .i64 ((n : Nat) : Int)) rfl (by kernel_rfl) (by kernel_rfl) (by kernel_rfl) (fun _ _ _ h => h) (Or.inl ⟨by kernel_rfl, fun w _ => rfl⟩) (by assumption) ?_
                try simp only [Act.put, List.setIfInBounds_toArray, List.set_cons_zero, List.set_cons_succ]
                refine wpAnyH_take (i := 4) (oi := ⟨some 119, _, _, _, _, _⟩) (v := .bool true) rfl (by kernel_rfl) (by kernel_rfl) (by kernel_rfl) (fun _ _ _ h => h) (Or.inl ⟨by kernel_rfl, by intro w _; go_simp; (try omega)⟩) (by assumption) ?_
                try simp only [Act.put, List.setIfInBounds_toArray, List.set_cons_zero, List.set_cons_succ]
                refine wpAnyH_take (i := 5) (oi := ⟨some 120, _, _, _, _, _⟩) (v := .bool true) rfl (by kernel_rfl) (by kernel_rfl) (by kernel_rfl) (fun _ _ _ h => h) (Or.inl ⟨by kernel_rfl, fun w _ => rfl⟩) (by assumption) ?_
                try simp only [Act.put, List.setIfInBounds_toArray, List.set_cons_zero, List.set_cons_succ]
                refine wpAnyH_take (i := 6) (oi := ⟨some 121, _, _, _, _, _⟩) (v := .slice ao12 rb.length p12) rfl (by kernel_rfl) (by kernel_rfl) (by kernel_rfl) (fun _ _ _ h => h) (Or.inl ⟨by kernel_rfl, fun w _ => rfl⟩) (by assumption) ?_
                try simp only [Act.put, List.setIfInBounds_toArray, List.set_cons_zero, List.set_cons_succ]
                refine wpAnyH_take (i := 7) (oi := ⟨some 122, _, _, _, _, _⟩) (v := .string Z) rfl (by kernel_rfl) (by kernel_rfl) (by kernel_rfl) (fun _ _ _ h => h) (Or.inl ⟨by kernel_rfl, by intro w hSw; obtain ⟨s1, s2, s3⟩ := hSw; go_simp⟩) (by assumption) ?_
                try simp only [Act.put, List.setIfInBounds_toArray, List.set_cons_zero, List.set_cons_succ]
                refine wpAnyH_take (i := 8) (oi := ⟨some 123, _, _, _, _, _⟩) (v := .slice (some ⟨b6, o6, none⟩) l6 c6) rfl (by kernel_rfl) (by kernel_rfl) (by kernel_rfl) (fun _ _ _ h => h) (Or.inl ⟨by kernel_rfl, fun w _ => rfl⟩) (by assumption) ?_
                try simp only [Act.put, List.setIfInBounds_toArray, List.set_cons_zero, List.set_cons_succ]
                refine wpAnyH_take (i := 9) (oi := ⟨some 124, _, _, _, _, _⟩) (v := .int .i64 ((n : Nat) : Int)) rfl (by kernel_rfl) (by kernel_rfl) (by kernel_rfl) (fun _ _ _ h => h) (Or.inl ⟨by kernel_rfl, fun w _ => rfl⟩) (by assumption) ?_
                try simp only [Act.put, List.setIfInBounds_toArray, List.set_cons_zero, List.set_cons_succ]
                refine wpAnyH_take (i := 10) (oi := ⟨some 125, _, _, _, _, _⟩) (v := .pointer (some ⟨b6, o6 + n, none⟩)) rfl (by kernel_rfl) (by kernel_rfl) (by kernel_rfl) (fun _ _ _ h => h) (Or.inl ⟨by kernel_rfl, by intro w _; go_simp; (try omega)⟩) (by assumption) ?_
                try simp only [Act.put, List.setIfInBounds_toArray, List.set_cons_zero, List.set_cons_succ]
                refine wpAnyH_take (i := 11) (oi := ⟨some 126, _, _, _, _, _⟩) (v := .slice ad l c) rfl (by kernel_rfl) (by kernel_rfl) (by kernel_rfl) (fun _ _ _ h => h) (Or.inl ⟨by kernel_rfl, by intro w hSw; obtain ⟨s1, s2, s3⟩ := hSw; go_simp⟩) (by assumption) ?_
                try simp only [Act.put, List.setIfInBounds_toArray, List.set_cons_zero, List.set_cons_succ]
                refine wpAnyH_take (i := 12) (oi := ⟨some 127, _, _, _, _, _⟩) (v := .string Z) rfl (by kernel_rfl) (by kernel_rfl) (by kernel_rfl) (fun _ _ _ h => h) (Or.inl ⟨by kernel_rfl, by intro w hSw; obtain ⟨s1, s2, s3⟩ := hSw; go_simp⟩) (by assumption) ?_
                try simp only [Act.put, List.setIfInBounds_toArray, List.set_cons_zero, List.set_cons_succ]
                refine wpAnyH_take (i := 13) (oi := ⟨some 128, _, _, _, _, _⟩) (v := .bool false) rfl (by kernel_rfl) (by kernel_rfl) (by kernel_rfl) (fun _ _ _ h => h) (Or.inl ⟨by kernel_rfl, by intro w _; go_simp; (try omega)⟩) (by assumption) ?_
                try simp only [Act.put, List.setIfInBounds_toArray, List.set_cons_zero, List.set_cons_succ]
                refine wpAnyH_take (i := 14) (oi := ⟨some 129, _, _, _, _, _⟩) (v := .bool false) rfl (by kernel_rfl) (by kernel_rfl) (by kernel_rfl) (fun _ _ _ h => h) (Or.inl ⟨by kernel_rfl, by intro w _; go_simp; (try omega)⟩) (by assumption) ?_
                try simp only [Act.put, List.setIfInBounds_toArray, List.set_cons_zero, List.set_cons_succ]
                refine wpAnyH_take (i := 15) (oi := ⟨some 130, _, _, _, _, _⟩) (v := .bool false) rfl (by kernel_rfl) (by kernel_rfl) (by kernel_rfl) (fun _ _ _ h => h) (Or.inl ⟨by kernel_rfl, by intro w _; go_simp; (try omega)⟩) (by assumption) ?_
                try simp only [Act.put, List.setIfInBounds_toArray, List.set_cons_zero, List.set_cons_succ]
                refine wpAnyH_done (by kernel_rfl) ?_ _
                go_wp2_with fail
                go_roundw
                case rel => exact ⟨n + 1, by go_num, by omega, Lib.hid (HE12.out.later K (Below.refl _ _).drew)⟩
                case measure => simp [intOf]; omega
            · have n1 : ¬ (n : Int) < 480 := by omega
              go_wp2_with fail
              go_ret
              exact ⟨rfl, HE.out.2.2.2⟩

end Go.Proofs.Ytbnepjojfaeggaa
