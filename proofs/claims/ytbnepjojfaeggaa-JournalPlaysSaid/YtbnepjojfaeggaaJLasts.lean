/-
  Proved here: what JournalLasts answers, of a journal that answers as JournalOk and JournalGood say.
  The conditions stand at each theorem.
-/
import Derived.Test.YtbnepjojfaeggaaPad16
import Derived.WalkKit
import Derived.BigQuiet
import Derived.Deep.RegionWith
import Derived.StillTailTactics
namespace Go.Proofs.Ytbnepjojfaeggaa
open Go.RowKit
set_option linter.unusedVariables false
set_option linter.unusedSimpArgs false

/-- What the law keeps beside: a text of a block that was written, or none. -/
def Lasts (xs L : List ByteArray) : Prop :=
  L.length = 140 ∧ xs.length = 200 ∧ ∀ n : Nat, n < 140 → (L[n]? = some ByteArray.empty ∧ xs[60 + n]? = some zeroS) ∨ ∃ y : List Int, y.length = 64 ∧ (∀ z ∈ y, 0 ≤ z ∧ z ≤ 255) ∧ L[n]? = some (str y) ∧ xs[60 + n]? = some (str y)

theorem one_check {n : Nat} {a : Int} (h1 : 60 ≤ a) (h2 : a < n) (h4 : n ≤ 480) {y : List Int} (hy : y.length = 64) : checkW [(a, y)] n = 0 := by
  unfold checkW
  rw [if_neg (by simp), if_neg (by
    simp only [List.any_cons, List.any_nil, Bool.or_false]
    unfold badW
    rw [decide_eq_true_eq]
    rintro (h2 | h2)
    · exact h2 hy
    · simp only at h2; omega)]
  have : soundD ⟨1, [a]⟩ = true := by
    unfold soundD
    simp only [List.length_cons, List.length_nil, List.all_cons, List.all_nil, Bool.and_true, List.nodup_cons, List.not_mem_nil, not_false_eq_true, List.nodup_nil, and_self, decide_true, Bool.and_true]
    rw [show homeB a = true from decide_eq_true ⟨by omega, by omega, by omega, by omega⟩]
    rfl
  show (if soundD ⟨1, [a]⟩ = true then (0 : Int) else 1) = 0
  rw [if_pos this]
theorem Lasts.put {xs L : List ByteArray} (h : Lasts xs L) {n : Nat} (hn : n < 140) {y : List Int} (hy : y.length = 64) (hb : ∀ z ∈ y, 0 ≤ z ∧ z ≤ 255) : Lasts (putS xs [((60 + (n : Int)), y)]) (L.set n (str y)) := by
  have e : putS xs [((60 + (n : Int)), y)] = xs.set (60 + n) (str y) := by
    show putS1 xs ((60 + (n : Int)), y) = _
    unfold putS1
    rw [if_pos (by simp only; rw [h.2.1]; omega)]
    show xs.set (60 + (n : Int)).toNat (str y) = _
    rw [show (60 + (n : Int)).toNat = 60 + n from by omega]
  refine ⟨by rw [List.length_set]; exact h.1, by rw [putS_length]; exact h.2.1, fun m hm => ?_⟩
  rw [e]
  by_cases hmn : m = n
  · subst hmn
    exact Or.inr ⟨y, hy, hb, by rw [List.getElem?_set_self (by rw [h.1]; omega)], by rw [List.getElem?_set_self (by rw [h.2.1]; omega)]⟩
  · rw [List.getElem?_set_ne (by omega), List.getElem?_set_ne (by omega)]
    exact h.2.2 m hm
theorem lasts_commit {M : JM} {Q : JournalGood M} {d : DM} {s : M.S} {xs : List ByteArray} {k n : Nat} (h : Q.Live d s xs k) (hk : k ≤ 1000) (hl : d.left < 0) (hn : d.n = 200) (hn1 : n < 140) {y : List Int} (hy : y.length = 64) :
    ∃ d2 s2, M.commitP d s [((60 + (n : Int)), y)] = (d2, s2, 0) ∧ d2.n = 200 ∧ d2.left < 0 ∧ Q.Live d2 s2 (putS xs [((60 + (n : Int)), y)]) (k + 1) := by
  have hc := Q.commit_yes (ws := [((60 + (n : Int)), y)]) h hk (one_check (by omega) (by rw [hn]; omega) (by omega) hy) (by simp)
  have hc2 := Q.commit_left (ws := [((60 + (n : Int)), y)]) h hl
  obtain ⟨⟨d2, s2, e⟩, hC⟩ : ∃ r, M.commitP d s [((60 + (n : Int)), y)] = r := ⟨_, rfl⟩
  rw [hC] at hc hc2 ⊢
  simp only at hc hc2
  obtain ⟨h1, h2⟩ := hc
  have h3 := h2.resolve_right (fun h => by have := h.2.1; omega)
  exact ⟨d2, s2, by rw [h3.1], by rw [h1, hn], hc2, h3.2⟩
theorem lasts_open {M : JM} {Q : JournalGood M} {d : DM} {s : M.S} {xs : List ByteArray} {k : Nat} (h : Q.Live d s xs k) (ks : List Int) : smallD (restarted d ks) ∧ ∃ d2 s2, M.openP (restarted d ks) = (d2, some s2, 0) ∧ d2.n = d.n ∧ d2.left < 0 ∧ Q.Live d2 s2 xs k := by
  have hr := Q.live_restart ks h
  have hl : (restarted d ks).left < 0 := by show (-1 : Int) < 0; decide
  have h1 := Q.opens hr
  have h2 := Q.opens_left hr hl
  obtain ⟨⟨d2, o, e⟩, hO⟩ : ∃ r, M.openP (restarted d ks) = r := ⟨_, rfl⟩
  rw [hO] at h1 h2 ⊢
  simp only [Prod.mk.injEq] at h1 h2
  obtain ⟨hn, h3⟩ := h1
  obtain ⟨s2, x, ⟨rfl, rfl⟩, hx, hl2⟩ := h3.resolve_right (fun h => by have := h.2.1; omega)
  refine ⟨(Q.rec_small hr).1, d2, s2, rfl, hn, h2, ?_⟩
  rcases hx with rfl | rfl <;> exact hl2
theorem last_read {M : JM} {Q : JournalGood M} {d : DM} {s : M.S} {xs : List ByteArray} {k n : Nat} (hn : d.n = 200) (h : Q.Live d s xs k) (hn1 : n < 140) : (M.readP d s (60 + (n : Int))).2 = 0 ∧ xs[60 + n]? = some (str (M.readP d s (60 + (n : Int))).1) := by
  have h2 := (Q.live_holds h).2 (60 + n) (by omega)
  rw [show ((60 + n : Nat) : Int) = 60 + (n : Int) from by omega] at h2
  exact ⟨h2.1, h2.2 (decide_eq_true ⟨by omega, by omega, by omega, by omega⟩)⟩
/-- Behind the rounds of JournalLasts: what is read, block by block. -/
def LastEnd (M : JM) (JI : World → Addr → Addr → (Nat → Prop) → M.S → Prop) (w : World) (g q : Nat) (a j : Addr) (F G8 : Nat → Prop) (j8 : Addr) (G : Nat → Prop) (na : Option Addr) (nc : Nat) (zs : List ByteArray) (d : DM) (s s8 : M.S) (xs : List ByteArray) (wr : World) : Prop :=
  ∃ O L, GI q O M JI wr w.heap.size g a j F G na na 200 nc nc false d s zs zs ∧ JI wr j8 a G8 s8 ∧ Lasts xs L ∧ LastIs wr q L ∧ Below w.heap.size w wr
theorem Lasts.fill {xs L : List ByteArray} (h : Lasts xs L) {n : Nat} (hn : n < 140) {y : List Int} (hy : y.length = 64) (hb : ∀ z ∈ y, 0 ≤ z ∧ z ≤ 255) (hx : xs[60 + n]? = some (str y)) {Z : ByteArray} (hZ : Z = str y) : Lasts xs (L.set n Z) := by
  subst hZ
  refine ⟨by rw [List.length_set]; exact h.1, h.2.1, fun m hm => ?_⟩
  by_cases hmn : m = n
  · subst hmn
    exact Or.inr ⟨y, hy, hb, by rw [List.getElem?_set_self (by rw [h.1]; omega)], hx⟩
  · rw [List.getElem?_set_ne (by omega)]
    exact h.2.2 m hm
theorem empty_not {y : List Int} {Z : ByteArray} (h : str y = Z) (hl : y.length = 64) : (Z.toList == []) = false := by
  rw [← h, Go.ByteArray.toList_eq, str_data]
  cases y with
  | nil => cases hl
  | cons a r => rfl
theorem lasts_start : Lasts (List.replicate 200 zeroS) (List.replicate 140 ByteArray.empty) :=
  ⟨List.length_replicate, List.length_replicate, fun n hn => Or.inl ⟨by rw [List.getElem?_replicate, if_pos hn], by rw [List.getElem?_replicate]; rw [if_pos (by omega)]⟩⟩
theorem lastis_made (w : World) : LastIs (w.alloc (.cells (madeCells #[.string ByteArray.empty] 140) 9)) w.heap.size (List.replicate 140 ByteArray.empty) := by
  refine ⟨fun j x hj => ?_, fun j => by rw [World.frozen?_alloc_mark]; simp⟩
  rw [List.getElem?_replicate] at hj
  split at hj
  · cases hj
    rw [World.cell?_alloc_new]
    simp [madeCells, *, Nat.mod_one]
  · cases hj

/-- The game of JournalLasts behind at most i rounds. -/
def LastRel (M : JM) (JI : World → Addr → Addr → (Nat → Prop) → M.S → Prop) (Q : JournalGood M) (w : World) (g q : Nat) (a : Addr) (na : Option Addr) (nc : Nat) (zs : List ByteArray) (i : Nat) (wr : World) : Prop :=
  ∃ O j F G d s xs L k, GI q O M JI wr w.heap.size g a j F G na na 200 nc nc false d s zs zs ∧ Q.Live d s xs k ∧ k ≤ i ∧ d.left < 0 ∧ d.n = 200 ∧ Lasts xs L ∧ LastIs wr q L ∧ Below w.heap.size w wr

set_option maxRecDepth 100000 in
set_option maxHeartbeats 6400000 in
theorem lasts16_any {M : JM} {JI : World → Addr → Addr → (Nat → Prop) → M.S → Prop} (K : JournalOk M JI) (Q : JournalGood M) (w : World) (a0 a1 : Option Addr) (len0 cap0 len1 cap1 : Nat) (z0 : List (List Int)) (z1 : List Int) (hcp : cap0 ≤ 140737488351232) (hT : RowsIn w a0 len0 cap0 z0) (hA : Arg w a1 len1 cap1 z1) :
    Calls Try.prog 4 #[.slice a0 len0 cap0, .slice a1 len1 cap1] w fun e w' => e = .returned (.bool true) ∧ Below w.heap.size w w' := by
  obtain ⟨s0, hs0, hlv0, hl0, hn0⟩ := Q.begins 200 (by decide) (by decide)
  have cB := begin_any K 200 w (by decide) (by decide) s0 hs0
  rw [show ((200 : Nat) : Int) = 200 from rfl] at cB
  obtain ⟨d0, hd0⟩ : ∃ d0, (M.openP (beginD 200)).1 = d0 := ⟨_, rfl⟩
  obtain ⟨zs, hzs⟩ : ∃ zs, List.replicate 200 zeroS = zs := ⟨_, rfl⟩
  rw [hd0, hzs] at hlv0
  rw [hd0] at hn0 hl0
  have HD0 := Lib.hid hd0
  have HLV0 := Lib.hid (And.intro hlv0 (And.intro hl0 hn0))
  have HZS := Lib.hid hzs
  have HCP := Lib.hid hcp
  have HT := Lib.hid hT
  have HA := Lib.hid hA
  clear hs0 hlv0 hl0 hn0 hd0 hzs hT hA hcp
  go_enter Try.func4, Try.ntmps4
  go_wp2_with (first
    | (go_at_call 8; refine (awake16_any K Q w1).mono ?_; rintro e w2 ⟨rfl, hb2⟩; have HG2 := Lib.hid (HG1.out.later K hb2); have B2 := Lib.hid (B1.out.trans (hb2.mono HL1.out)); have HML := Lib.hid (run_make_vals elemS w2 140 (by decide)); have hmk := HML.out; rw [show ((140 : Nat) : Int) = 140 from rfl] at hmk; clear hb2)
    | (go_at_call 7; refine cB.mono ?_; rintro e w1 ⟨g, a, j, F, G, na, nc, rfl, hGA, hDI, hJI, hdj, hF, hG, hwg, hown, hb1⟩; rw [HD0.out] at hDI; rw [HZS.out] at hown; obtain ⟨q0, O0, hGI⟩ := began_gi hGA hDI hJI hdj hF hG hwg hown (by omega) (by omega); have HG1 := Lib.hid hGI; have B1 := Lib.hid hb1; have HL1 := Lib.hid hb1.size; clear hGI hGA hDI hJI hdj hF hG hwg hown hb1))
  have hAl : Below w2.heap.size w2 (w2.alloc (.cells (madeCells #[.string ByteArray.empty] 140) 9)) := (Below.refl _ _).alloc (Nat.le_refl _) _
  have HLI := Lib.hid (lastis_made w2)
  have HG3 := Lib.hid ((HG2.out.later K hAl).beside (p := w2.heap.size) ⟨by have := HG2.out.at_.lt; omega, by simp, fun h => by have := diskOk.lt HG2.out.di _ h; omega, fun h => by have := K.lt HG2.out.ji _ h; omega⟩)
  have HB3 := Lib.hid (B2.out.trans (hAl.mono HG2.out.lo_le))
  have HQL : Hid (w.heap.size ≤ w2.heap.size) := Lib.hid B2.out.size
  have HNA : Hid (∀ b o t, na = some ⟨b, o, t⟩ → b ≠ w2.heap.size) := Lib.hid (fun b o t e h => by have := HG2.out.now.lt (by decide) e; omega)
  obtain ⟨q, hq⟩ : ∃ q, w2.heap.size = q := ⟨_, rfl⟩
  rw [hq] at HLI HG3 HNA HQL
  rw [hq]
  clear hAl hmk HML hq
  go_loopw [7] (fun iv wr => ∃ i : Nat, iv = .int .i64 (i : Int) ∧ i ≤ 60 ∧ Hid (LastRel M JI Q w g q a na nc zs i wr)) (fun iv _ => 61 - (intOf iv).toNat)
  case atStart => exact ⟨0, rfl, Nat.zero_le _, Lib.hid ⟨_, j, F, G, d0, s0, _, _, 0, HG3.out, HLV0.out.1, Nat.le_refl _, HLV0.out.2.1, HLV0.out.2.2, (by rw [← HZS.out]; exact lasts_start), HLI.out, HB3.out⟩⟩
  case round =>
    clear HD0 HLV0 HG1 HG2 HG3 HLI HB3 B1 B2 HL1 cB
    obtain ⟨i, rfl, hi, HR⟩ := hrel
    obtain ⟨O, j, F, G, d, s, xs, L, k, hGI, hlv, hki, hl, hdn, hLs, hLi, hBw⟩ := HR.out
    by_cases hlt : i < len0 ∧ i < len1 ∧ i < 60
    · obtain ⟨h0, h1, h2⟩ := hlt
      have i0 : (i : Int) < (len0 : Int) := by omega
      have i1 : (i : Int) < (len1 : Int) := by omega
      have i2 : (i : Int) < 60 := by omega
      have hTb : len0 ≤ 140737488351232 := Nat.le_trans HT.out.2.1 HCP.out
      obtain ⟨b0, o0, ad, l, c, rfl, hc0, hBt⟩ := HT.out.at h0
      obtain ⟨b1, o1, rfl, hc1⟩ := HA.out.1.2.2.2.resolve_left (by omega)
      obtain ⟨x, hx⟩ : ∃ x, z1.getD i 0 = x := ⟨_, rfl⟩
      have hxr : 0 ≤ x ∧ x ≤ 255 := by rw [← hx]; exact HA.out.1.2.2.1 _ (getD_mem (by rw [HA.out.1.1]; exact h1))
      have hx1 := hc1 i h1
      rw [hx] at hx1
      obtain ⟨n, hn⟩ : ∃ n : Nat, x % 140 = (n : Int) := ⟨(x % 140).toNat, by omega⟩
      have hn1 : n < 140 := by omega
      have ht : Int.tmod x 140 = (n : Int) := by rw [Int.tmod_eq_emod_of_nonneg hxr.1]; exact hn
      obtain ⟨tx, htx⟩ : ∃ tx, z0.getD i [] = tx := ⟨_, rfl⟩
      rw [htx] at hBt
      obtain ⟨W1, hmk, hO1⟩ := made64 wr
      obtain ⟨p, hp⟩ : ∃ p, wr.heap.size = p := ⟨_, rfl⟩
      rw [hp] at hmk hO1
      have bW1 : Below wr.heap.size wr W1 := by rw [hp]; exact hO1.2.2.2.2
      have e0 := cell_later bW1 (cell_later hBw hc0)
      have HBt := Lib.hid ((hBt.later hBw).later bW1)
      have HO1 := Lib.hid hO1
      have HX1 := Lib.hid (cell_later hBw hx1)
      have HGI := Lib.hid hGI
      have HLV := Lib.hid (And.intro hlv (And.intro hki (And.intro hl hdn)))
      have HLS := Lib.hid hLs
      have HLI := Lib.hid hLi
      have HBW := Lib.hid hBw
      have HP := Lib.hid hp
      clear hc0 hBt hc1 hx hx1 hn htx hO1 bW1 hGI hlv hki hl hdn hLs hLi hBw HR hp
      have HLC := Lib.hid (lasts_commit HLV.out.1 (by have := HLV.out.2.1; omega) HLV.out.2.2.1 HLV.out.2.2.2 hn1 (pad_length tx))
      obtain ⟨d2, s2, hC, hn2, hl2, hlv2⟩ := HLC.out
      have HC := Lib.hid hC
      have HLV2 := Lib.hid (And.intro hn2 (And.intro hl2 hlv2))
      have HSD := Lib.hid (Q.live_small HLV.out.1).1
      obtain ⟨y, hy⟩ : ∃ y, pad64 tx = y := ⟨_, rfl⟩
      have HYL : Hid (y.length = 64) := Lib.hid (by rw [← hy]; exact pad_length tx)
      have hcy := own_copy_min HO1.out ad l c tx HBt.out 3
      rw [hy] at HC HLV2 hcy
      have HCY := Lib.hid hcy
      obtain ⟨uq, huq⟩ : ∃ u, L[n]? = some u := ⟨_, List.getElem?_eq_getElem (by rw [HLS.out.1]; exact hn1)⟩
      have HUQ := Lib.hid huq
      obtain ⟨r, hr⟩ : ∃ r, Int.tmod (i : Int) 7 = r := ⟨_, rfl⟩
      clear hC hn2 hl2 hlv2 hy hcy huq HLC
      by_cases r3 : r = 3
      · subst r3
        obtain ⟨hsr, d7, s7, hop, hn7, hl7, hlv7⟩ := lasts_open HLV2.out.2.2 []
        have HSR := Lib.hid hsr
        have HOP := Lib.hid hop
        have HLV7 := Lib.hid (And.intro (hn7.trans HLV2.out.1) (And.intro hl7 hlv7))
        clear hsr hop hn7 hl7 hlv7
        go_wp2_with (first
          | (go_at_call 17; refine (K.opens HG7.out.di HSR.out).mono ?_; rintro e w8 ⟨F8, p8, rfl, hD8, hg8, _, hj8⟩; rw [HOP.out] at hD8 hj8; obtain ⟨j8, G8, rfl, hJ8, hJ9, hJF8⟩ := hj8 s7 rfl; rw [HOP.out]; have HG8 := Lib.hid (HG7.out.disk K (by decide) HG7.out.lo_le hD8 hg8); have HB8 := Lib.hid (HG7.out.below_disk HB7.out HG7.out.lo_le hg8); have HJ8 := Lib.hid (And.intro hJ8 (And.intro hJ9 hJF8)); have g8 := HG8.out.at_.2.1; have f8 := HG8.out.at_.2.2.2.2.2 1; clear hD8 hg8 hj8 hJ8 hJ9 hJF8)
          | (go_at_call 16; refine (diskOk.restart (fun _ => False) none 0 0 [] HG6.out.di ⟨rfl, Or.inl rfl⟩ (fun _ _ h => h)).mono ?_; rintro e w7 ⟨F7, rfl, hD7, hg7⟩; have HG7 := Lib.hid (HG6.out.disk K (by decide) HG6.out.lo_le hD7 hg7); have HB7 := Lib.hid (HG6.out.below_disk HB6.out HG6.out.lo_le hg7); have g7 := HG7.out.at_.1; clear hD7 hg7)
          | (go_at_call 9; obtain ⟨W4, hW4⟩ : ∃ W4, w3.alloc (.cells #[.int .i64 (60 + (n : Int)), .slice (some ⟨p, 0, none⟩) 64 64] 48) = W4 := ⟨_, rfl⟩; have hA3 : Arg w3 (some ⟨p, 0, none⟩) 64 64 y := own_arg HO3.out HYL.out; have hps : p ≤ w3.heap.size := below_size_of HO3.out.2.2.2.2 HP.out; have hL4 := list_one (T := 48) (G := fun k => p ≤ k) (x := 60 + (n : Int)) hA3 (by omega) (fun b o s h => by cases h; exact Nat.le_refl _) hps; have b4 : Below w3.heap.size w3 W4 := (by rw [← hW4]; exact (Below.refl _ _).alloc (Nat.le_refl _) _); rw [hW4] at hL4; rw [hW4]; have HG4 := Lib.hid (HG3.out.later K b4); have HB4 := Lib.hid (HB3.out.trans (b4.mono HG3.out.lo_le)); have HA4 := Lib.hid (hA3.later b4); have HPL : Hid (∀ k, F k ∨ G k → k < p) := Lib.hid (fun k hk => by rw [← HP.out]; exact hk.elim (diskOk.lt HGI.out.di k) (K.lt HGI.out.ji k)); have HPS : Hid (p < W4.heap.size) := Lib.hid (by have h := b4.size; have h2 := own_lt64 HO3.out HYL.out; omega); refine (K.commit (fun k => p ≤ k) (some ⟨w3.heap.size, 0, none⟩) 1 1 [(60 + (n : Int), y)] HG4.out.di HG4.out.ji HG4.out.apart hL4 (fun k hk h => by have := HPL.out k (Or.inl hk); omega) (fun k hk h => by have := HPL.out k (Or.inr hk); omega) HSD.out).mono ?_; rintro e w5 ⟨F5, G5, rfl, hD5, hJ5, hA5, hg5⟩; rw [HC.out] at hD5 hJ5; rw [HC.out]; have HG5 := Lib.hid (HG4.out.both K (by decide) HG4.out.lo_le hD5 hJ5 hA5 hg5); have HB5 := Lib.hid (HG4.out.below_both HB4.out HG4.out.lo_le hg5); have hAb := HA4.out.kept (fun b o s e => by cases e; exact grew_kept hg5 HPS.out (fun h => Nat.lt_irrefl p (HPL.out p h))); have hcv := str_bytes hAb.1 (cap := 64); have HLI5 := Lib.hid (HLI.out.kept (HG5.out.qo.trans HGI.out.qo.symm)); have hq5 := HLI5.out.1 n _ HUQ.out; have hf5 := HLI5.out.2 n; have HG6 := Lib.hid (HG5.out.store K HNA.out HNA.out n (.string (str y))); have HLI6 := Lib.hid (HLI5.out.store (i := n) (by rw [HLS.out.1]; exact hn1) (str y)); have HB6 := Lib.hid (HB5.out.setCell (p := ⟨q, n, none⟩) HQL.out (.string (str y))); have g6 := HG6.out.at_.1; clear hA3 hL4 hW4 hps b4 hD5 hJ5 hA5 hg5 hAb)
          | (refine wp_copy rfl (.tmp 42) (.tmp 46) 46 46 rfl _ _ rfl rfl _ HCY.out ?_; intro v3 w3 hO3; have HO3 := Lib.hid hO3; have e1 := cell_later (by rw [HP.out]; exact hO3.2.2.2.2) HX1.out; have HG3 := Lib.hid (HGI.out.later K (by rw [HP.out]; exact hO3.2.2.2.2)); have HB3 := Lib.hid (HBW.out.trans ((by rw [HP.out]; exact hO3.2.2.2.2 : Below wr.heap.size wr w3).mono HGI.out.lo_le)); have g1 := HG3.out.at_.2.1; clear hO3))
        have HGJ := Lib.hid (HG8.out.setJ K HJ8.out.1 (fun k hk => by have h1 := HJ8.out.2.1 k hk; have h2 := HG7.out.at_.lt; exact ⟨Nat.le_trans HG7.out.lo_le h1, by omega⟩) (fun hq => by have h1 := HJ8.out.2.1 q hq; have h2 := HG7.out.qn.2.1; omega) (fun k hF hG => HJ8.out.2.2 k hG hF) (fun b o t e hG => by have h1 := HJ8.out.2.1 b hG; have h2 := HG7.out.now.lt (by decide) e; omega) (fun b o t e hG => by have h1 := HJ8.out.2.1 b hG; have h2 := HG7.out.may.lt (by decide) e; omega))
        have HBJ := Lib.hid (HB8.out.setCell (p := ⟨g, 1, none⟩) HG8.out.lo_g (.pointer (some j8)))
        have HLJ := Lib.hid (HLI6.out.kept (HGJ.out.qo.trans HG6.out.qo.symm))
        go_roundw
        case rel => exact ⟨i + 1, by go_num, by omega, Lib.hid ⟨_, j8, F8, G8, d7, s7, _, _, k + 1, HGJ.out, HLV7.out.2.2, by have := HLV.out.2.1; omega, HLV7.out.2.1, HLV7.out.1, HLS.out.put hn1 HYL.out HO3.out.1, HLJ.out, HBJ.out⟩⟩
        case measure => simp [intOf]; omega
      · go_wp2_with (first
          | (go_at_call 9; obtain ⟨W4, hW4⟩ : ∃ W4, w3.alloc (.cells #[.int .i64 (60 + (n : Int)), .slice (some ⟨p, 0, none⟩) 64 64] 48) = W4 := ⟨_, rfl⟩; have hA3 : Arg w3 (some ⟨p, 0, none⟩) 64 64 y := own_arg HO3.out HYL.out; have hps : p ≤ w3.heap.size := below_size_of HO3.out.2.2.2.2 HP.out; have hL4 := list_one (T := 48) (G := fun k => p ≤ k) (x := 60 + (n : Int)) hA3 (by omega) (fun b o s h => by cases h; exact Nat.le_refl _) hps; have b4 : Below w3.heap.size w3 W4 := (by rw [← hW4]; exact (Below.refl _ _).alloc (Nat.le_refl _) _); rw [hW4] at hL4; rw [hW4]; have HG4 := Lib.hid (HG3.out.later K b4); have HB4 := Lib.hid (HB3.out.trans (b4.mono HG3.out.lo_le)); have HA4 := Lib.hid (hA3.later b4); have HPL : Hid (∀ k, F k ∨ G k → k < p) := Lib.hid (fun k hk => by rw [← HP.out]; exact hk.elim (diskOk.lt HGI.out.di k) (K.lt HGI.out.ji k)); have HPS : Hid (p < W4.heap.size) := Lib.hid (by have h := b4.size; have h2 := own_lt64 HO3.out HYL.out; omega); refine (K.commit (fun k => p ≤ k) (some ⟨w3.heap.size, 0, none⟩) 1 1 [(60 + (n : Int), y)] HG4.out.di HG4.out.ji HG4.out.apart hL4 (fun k hk h => by have := HPL.out k (Or.inl hk); omega) (fun k hk h => by have := HPL.out k (Or.inr hk); omega) HSD.out).mono ?_; rintro e w5 ⟨F5, G5, rfl, hD5, hJ5, hA5, hg5⟩; rw [HC.out] at hD5 hJ5; rw [HC.out]; have HG5 := Lib.hid (HG4.out.both K (by decide) HG4.out.lo_le hD5 hJ5 hA5 hg5); have HB5 := Lib.hid (HG4.out.below_both HB4.out HG4.out.lo_le hg5); have hAb := HA4.out.kept (fun b o s e => by cases e; exact grew_kept hg5 HPS.out (fun h => Nat.lt_irrefl p (HPL.out p h))); have hcv := str_bytes hAb.1 (cap := 64); have HLI5 := Lib.hid (HLI.out.kept (HG5.out.qo.trans HGI.out.qo.symm)); have hq5 := HLI5.out.1 n _ HUQ.out; have hf5 := HLI5.out.2 n; have HG6 := Lib.hid (HG5.out.store K HNA.out HNA.out n (.string (str y))); have HLI6 := Lib.hid (HLI5.out.store (i := n) (by rw [HLS.out.1]; exact hn1) (str y)); have HB6 := Lib.hid (HB5.out.setCell (p := ⟨q, n, none⟩) HQL.out (.string (str y))); have g6 := HG6.out.at_.1; clear hA3 hL4 hW4 hps b4 hD5 hJ5 hA5 hg5 hAb)
          | (refine wp_copy rfl (.tmp 42) (.tmp 46) 46 46 rfl _ _ rfl rfl _ HCY.out ?_; intro v3 w3 hO3; have HO3 := Lib.hid hO3; have e1 := cell_later (by rw [HP.out]; exact hO3.2.2.2.2) HX1.out; have HG3 := Lib.hid (HGI.out.later K (by rw [HP.out]; exact hO3.2.2.2.2)); have HB3 := Lib.hid (HBW.out.trans ((by rw [HP.out]; exact hO3.2.2.2.2 : Below wr.heap.size wr w3).mono HGI.out.lo_le)); have g1 := HG3.out.at_.2.1; clear hO3))
        go_roundw
        case rel => exact ⟨i + 1, by go_num, by omega, Lib.hid ⟨_, j, F5, G5, d2, s2, _, _, k + 1, HG6.out, HLV2.out.2.2, by have := HLV.out.2.1; omega, HLV2.out.2.1, HLV2.out.1, HLS.out.put hn1 HYL.out HO3.out.1, HLI6.out, HB6.out⟩⟩
        case measure => simp [intOf]; omega
    · obtain ⟨hsr, d7, s7, hop, hn7, hl7, hlv7⟩ := lasts_open hlv []
      have HSR := Lib.hid hsr
      have HOP := Lib.hid hop
      have HLV7 := Lib.hid (And.intro (hn7.trans hdn) hlv7)
      have HG6 := Lib.hid hGI
      have HB6 := Lib.hid hBw
      have HLS := Lib.hid hLs
      have HLI := Lib.hid hLi
      have g6 := HG6.out.at_.1
      have hends : ¬ (i : Int) < (len0 : Int) ∨ ((i : Int) < (len0 : Int) ∧ ¬ (i : Int) < (len1 : Int)) ∨ ((i : Int) < (len0 : Int) ∧ (i : Int) < (len1 : Int) ∧ ¬ (i : Int) < 60) := by omega
      have hTb : len0 ≤ 140737488351232 := Nat.le_trans HT.out.2.1 HCP.out
      have hAb : len1 ≤ 140737488351232 := HA.out.2.2.2
      clear hsr hop hn7 hl7 hlv7 hlt hlv hki hl hdn hLs hLi hBw HR hGI
      rcases hends with c1 | ⟨c1, c2⟩ | ⟨c1, c2, c3⟩
      all_goals
        go_wp2_with (first
          | (go_at_call 17; refine (K.opens HG7.out.di HSR.out).mono ?_; rintro e w8 ⟨F8, p8, rfl, hD8, hg8, _, hj8⟩; rw [HOP.out] at hD8 hj8; obtain ⟨j8, G8, rfl, hJ8, hJ9, hJF8⟩ := hj8 s7 rfl; rw [HOP.out]; have HG8 := Lib.hid (HG7.out.disk K (by decide) HG7.out.lo_le hD8 hg8); have HB8 := Lib.hid (HG7.out.below_disk HB7.out HG7.out.lo_le hg8); have HJ8 := Lib.hid (And.intro hJ8 (And.intro hJ9 hJF8)); clear hD8 hg8 hj8 hJ8 hJ9 hJF8)
          | (go_at_call 16; refine (diskOk.restart (fun _ => False) none 0 0 [] HG6.out.di ⟨rfl, Or.inl rfl⟩ (fun _ _ h => h)).mono ?_; rintro e w7 ⟨F7, rfl, hD7, hg7⟩; have HG7 := Lib.hid (HG6.out.disk K (by decide) HG6.out.lo_le hD7 hg7); have HB7 := Lib.hid (HG6.out.below_disk HB6.out HG6.out.lo_le hg7); have g7 := HG7.out.at_.1; clear hD7 hg7))
        have HQS : Hid (q < w8.heap.size ∧ ¬ G8 q) := Lib.hid ⟨HG8.out.qn.2.1, fun hq => by have h1 := HJ8.out.2.1 q hq; have h2 := HG7.out.qn.2.1; omega⟩
        have HL8 := Lib.hid (HLI.out.kept (HG8.out.qo.trans HG6.out.qo.symm))
        go_loopw [14] (fun nv wr => ∃ n : Nat, nv = .int .i64 (n : Int) ∧ n ≤ 140 ∧ Hid (LastEnd M JI w g q a j F8 G8 j8 G na nc zs d7 s s7 xs wr)) (fun nv _ => 141 - (intOf nv).toNat)
        case atStart => exact ⟨0, rfl, Nat.zero_le _, Lib.hid ⟨_, _, HG8.out, HJ8.out.1, HLS.out, HL8.out, HB8.out⟩⟩
        case round =>
          clear HL8 HLI HLS HG8 HG7 HG6 HB8 HB7 HB6 g7 g6 HJ8
          obtain ⟨n, rfl, hn, HR⟩ := hrel
          obtain ⟨O2, L2, hG, hJ, hLs, hLi, hB⟩ := HR.out
          by_cases hn1 : n < 140
          · have n1 : (n : Int) < 140 := by omega
            have n0 : (0 : Int) ≤ (n : Int) := by omega
            have hrd := last_read HLV7.out.1 HLV7.out.2 (n := n) hn1
            have cR := K.read (60 + (n : Int)) hG.di hJ (by unfold I64; omega) (by rw [hrd.1]; decide)
            obtain ⟨⟨rb, re⟩, hrr⟩ : ∃ r, M.readP d7 s7 (60 + (n : Int)) = r := ⟨_, rfl⟩
            rw [hrr] at hrd cR
            simp only at hrd cR
            obtain ⟨rfl, hxs⟩ := hrd
            have HG9 := Lib.hid hG
            have HJ9 := Lib.hid hJ
            have HLS9 := Lib.hid hLs
            have HLI9 := Lib.hid hLi
            have HB9 := Lib.hid hB
            have hls := hLs.2.2 n hn1
            clear hrr HR hG hJ hLs hLi hB
            have HYZ : Hid (∃ y : List Int, y.length = 64 ∧ (∀ z ∈ y, 0 ≤ z ∧ z ≤ 255) ∧ xs[60 + n]? = some (str y) ∧ ((L2[n]? = some ByteArray.empty ∧ y = zeros64) ∨ L2[n]? = some (str y))) := Lib.hid (by
              rcases hls with ⟨hL, hX⟩ | ⟨y, hy, hyb, hL, hX⟩
              · exact ⟨zeros64, rfl, fun z hz => by rw [List.eq_of_mem_replicate hz]; omega, hX, Or.inl ⟨hL, rfl⟩⟩
              · exact ⟨y, hy, hyb, hX, Or.inr hL⟩)
            obtain ⟨y, hy, hyb, hX, hL⟩ := HYZ.out
            have HY := Lib.hid (And.intro hy hyb)
            have HRB : Hid (str rb = str y) := Lib.hid (by rw [hX] at hxs; exact (Option.some.inj hxs).symm)
            have HX := Lib.hid hX
            obtain ⟨Z, hZ⟩ : ∃ Z, str y = Z := ⟨_, rfl⟩
            have HZ := Lib.hid hZ
            have hs := str_is Z Z
            rw [decide_eq_true rfl] at hs
            clear hy hyb hX hxs hls hZ HYZ
            rcases hL with ⟨hL, h0⟩ | hL
            · have hq9 := HLI9.out.1 n _ hL
              have HZ0 : Hid (str zeros64 = Z) := Lib.hid (by rw [← h0]; exact HZ.out)
              clear hL h0
              go_wp2_with (first
                | (go_at_call 18; refine cR.mono ?_; rintro e w10 ⟨v10, rfl, ⟨ao10, p10, rfl, hA10, hf10⟩, hb10⟩; have hE : rb = y := (by have h1 := congrArg bytesOf HRB.out; rw [bytesOf_str hA10.1.2.2.1, bytesOf_str HY.out.2] at h1; exact h1); rw [hE] at hA10 hf10; rw [hE]; obtain ⟨b10, o10, rfl, hb10g, _⟩ := hf10.resolve_left (fun h => by have := HY.out.1; rw [h] at this; cases this); have hcv := str_bytes hA10.1 (cap := p10); rw [HZ.out] at hcv; have HA10 := Lib.hid hA10; have HBQ : Hid (b10 ≠ q) := Lib.hid (by have := HG9.out.qn.2.1; omega); have HG10 := Lib.hid (HG9.out.later K hb10); have HB10 := Lib.hid (HB9.out.trans (hb10.mono HG9.out.lo_le)); have hq10 := cell_later hb10 hq9; have HJ10 := Lib.hid (K.kept HJ9.out (fun k hk => hb10.block k (K.lt HJ9.out k hk)) hb10.size); have HLI10 := Lib.hid (HLI9.out.kept (hb10.block q HG9.out.qn.2.1)); obtain ⟨W11, hmk11, hO11⟩ := made64 w10; obtain ⟨p11, hp11⟩ : ∃ p11, w10.heap.size = p11 := ⟨_, rfl⟩; have b11 : Below w10.heap.size w10 W11 := hO11.2.2.2.2; rw [hp11] at hmk11 hO11; have hcv11 := str_bytes (own_arg hO11 (by rfl)).1 (cap := 64); rw [HZ0.out] at hcv11; have HG11 := Lib.hid (HG10.out.later K b11); have hq11 := cell_later b11 hq10; have HLI11 := Lib.hid (HLI10.out.kept (b11.block q HG10.out.qn.2.1)); have hf11 := HLI11.out.2 n; have HJ11 := Lib.hid (K.kept HJ10.out (fun k hk => b11.block k (K.lt HJ10.out k hk)) b11.size); have HG12 := Lib.hid (HG11.out.store K HNA.out HNA.out n (.string Z)); have HLI12 := Lib.hid (HLI11.out.store (i := n) (by rw [HLS9.out.1]; exact hn1) Z); have HJ12 := Lib.hid (K.kept HJ11.out (w' := W11.setCell ⟨q, n, none⟩ (.string Z)) (fun k hk => set_heap W11 q n _ (fun e => HQS.out.2 (by rw [← e]; exact hk))) (Nat.le_of_eq (set_size W11 q n _).symm)); have HB12 := Lib.hid ((HB10.out.trans (b11.mono HG10.out.lo_le)).setCell (p := ⟨q, n, none⟩) HQL.out (.string Z)); have hq12 := HLI12.out.1 n Z (by rw [List.getElem?_set_self (by rw [HLS9.out.1]; exact hn1)]); have hA12 := ((HA10.out.later b11).kept (w' := W11.setCell ⟨q, n, none⟩ (.string Z)) (fun b o s e => by cases e; exact set_heap W11 q n _ HBQ.out)); have hcv12 := str_bytes hA12.1 (cap := p10); rw [HZ.out] at hcv12; have hcv13 := str_bytes (hA12.later (Below.refl _ _).drew).1 (cap := p10); rw [HZ.out] at hcv13; clear hA12 b11 hO11 hp11; clear hA10 hb10 hb10g hE))
              go_region
              go_wp2_with fail
              go_roundw
              case rel => exact ⟨n + 1, by go_num, by omega, Lib.hid ⟨_, _, HG12.out.later K (Below.refl _ _).drew, K.kept HJ12.out (fun k hk => rfl) (Nat.le_refl _), HLS9.out.fill hn1 HY.out.1 HY.out.2 HX.out (by rw [HZ.out]), HLI12.out.kept rfl, HB12.out.drew⟩⟩
              case measure => simp [intOf]; omega
            · rw [HZ.out] at hL
              have hq9 := HLI9.out.1 n _ hL
              have hz0 : (Z.toList == []) = false := empty_not HZ.out HY.out.1
              clear hL
              go_wp2_with (first
                | (go_at_call 18; refine cR.mono ?_; rintro e w10 ⟨v10, rfl, ⟨ao10, p10, rfl, hA10, hf10⟩, hb10⟩; have hE : rb = y := (by have h1 := congrArg bytesOf HRB.out; rw [bytesOf_str hA10.1.2.2.1, bytesOf_str HY.out.2] at h1; exact h1); rw [hE] at hA10 hf10; rw [hE]; obtain ⟨b10, o10, rfl, hb10g, _⟩ := hf10.resolve_left (fun h => by have := HY.out.1; rw [h] at this; cases this); have hcv := str_bytes hA10.1 (cap := p10); rw [HZ.out] at hcv; have HA10 := Lib.hid hA10; have HBQ : Hid (b10 ≠ q) := Lib.hid (by have := HG9.out.qn.2.1; omega); have HG10 := Lib.hid (HG9.out.later K hb10); have HB10 := Lib.hid (HB9.out.trans (hb10.mono HG9.out.lo_le)); have hq10 := cell_later hb10 hq9; have HJ10 := Lib.hid (K.kept HJ9.out (fun k hk => hb10.block k (K.lt HJ9.out k hk)) hb10.size); have HLI10 := Lib.hid (HLI9.out.kept (hb10.block q HG9.out.qn.2.1)); have hcv13 := str_bytes (hA10.later (Below.refl _ _).drew).1 (cap := p10); rw [HZ.out] at hcv13; clear hA10 hb10 hb10g hE))
              go_region
              go_wp2_with fail
              go_roundw
              case rel => exact ⟨n + 1, by go_num, by omega, Lib.hid ⟨_, _, HG10.out.later K (Below.refl _ _).drew, K.kept HJ10.out (fun k hk => rfl) (Nat.le_refl _), HLS9.out, HLI10.out.kept rfl, HB10.out.drew⟩⟩
              case measure => simp [intOf]; omega
          · have n1 : ¬ (n : Int) < 140 := by omega
            go_wp2_with fail
            go_ret
            exact ⟨rfl, hB⟩

end Go.Proofs.Ytbnepjojfaeggaa
