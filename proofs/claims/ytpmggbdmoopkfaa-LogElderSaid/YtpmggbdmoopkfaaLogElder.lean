/-
  Proved here: that transactions of other numbers are not found, and where the next one begins; of a log that answers as the document says. No other conditions.
-/
import Derived.Test.YtpmggbdmoopkfaaLogInts
import Derived.Test.YtpmggbdmoopkfaaLogLand
import Derived.WalkKit
namespace Go.Proofs.Ytpmggbdmoopkfaa.logElder
open Go.ChangeShapes Go.WideShapes Go.ChangeAt Go.RowKit
open Go.ChangeMaps (open_string shut_string)
set_option linter.unusedVariables false
set_option linter.unusedSimpArgs false

theorem findL_short (bs : List (List Int)) : ∀ (k a : Nat) (s : Int), ∀ l ∈ (findL bs k a s).1, l.length ≤ 20
  | 0, a, s => fun l h => by simp [findL] at h
  | k + 1, a, s => fun l h => by
    unfold findL at h
    cases hx : txAt bs a s with
    | none => rw [hx] at h; simp at h
    | some y =>
      rw [hx] at h
      rcases List.mem_cons.1 h with rfl | h
      · exact (tx_some hx).2.2.2.2
      · exact findL_short bs k _ _ l h
theorem findL_many (bs : List (List Int)) : ∀ (k a : Nat) (s : Int), (findL bs k a s).1.length ≤ k
  | 0, a, s => Nat.le_refl _
  | k + 1, a, s => by
    unfold findL
    cases txAt bs a s with
    | none => exact Nat.zero_le _
    | some l => exact Nat.succ_le_succ (findL_many bs k _ _)
theorem sum_step (ls : List (List (Int × List Int))) {i : Nat} {l : List (Int × List Int)} (h : ls[i]? = some l) : sumT (ls.take (i + 1)) = sumT (ls.take i) + (l.length + 2) := by
  unfold sumT
  rw [List.take_add_one, h]
  simp
theorem sum_le : ∀ (ls : List (List (Int × List Int))), (∀ l ∈ ls, l.length ≤ 20) → sumT ls ≤ 22 * ls.length
  | [], _ => Nat.le_refl _
  | l :: r, h => by
    have h1 := h l (List.mem_cons_self ..)
    have h2 := sum_le r (fun x hx => h x (List.mem_cons_of_mem _ hx))
    show (l.length + 2) + sumT r ≤ 22 * (r.length + 1)
    omega

/-- What is known where something is found. -/
theorem found_some {Z : List (List Int)} {a s : Int} (hE : foundErr Z a s = 0) (hne : (foundOut Z a s).1 ≠ []) : foundErr Z a (s + 1) = 0 ∧ foundOut Z a (s + 1) = ([], a, s + 1) ∧ (foundOut Z a s).2.2 = s + ((foundOut Z a s).1.length : Int) ∧
    (foundOut Z a s).2.1 = (a + (sumT (foundOut Z a s).1 : Int)) % 40 ∧ (0 ≤ a ∧ a ≤ 39 ∧ 1 ≤ s ∧ s < 1073741824) ∧ (foundOut Z a s).1.length ≤ 1073741824 ∧ ∀ l ∈ (foundOut Z a s).1, l.length ≤ 20 := by
  have hok : okLog Z a s = true := by
    cases h : okLog Z a s with
    | true => rfl
    | false => unfold foundErr at hE; rw [h] at hE; cases hE
  have hb := hok
  unfold okLog at hb
  rw [Bool.and_eq_true, decide_eq_true_eq] at hb
  obtain ⟨⟨z40, a0, a39, s1, s2⟩, hall⟩ := hb
  obtain ⟨n, rfl⟩ : ∃ n : Nat, a = n := ⟨a.toNat, by omega⟩
  have ho : foundOut Z n s = ((findF Z n s).1, ((findF Z n s).2.1 : Int), (findF Z n s).2.2) := by unfold foundOut; rw [if_pos hok, Int.toNat_natCast]
  rw [ho] at hne ⊢
  have hs : s < 1073741824 := by
    rcases Int.lt_or_le s 1073741824 with h | h
    · exact h
    · rw [findF_end h] at hne; exact absurd rfl hne
  have hok2 : okLog Z n (s + 1) = true := by
    unfold okLog
    rw [Bool.and_eq_true, decide_eq_true_eq]
    exact ⟨⟨z40, a0, a39, by omega, by omega⟩, hall⟩
  have hel : findF Z n (s + 1) = ([], n, s + 1) := find_elder hne
  obtain ⟨f1, f2⟩ := find_sums Z (1073741824 - s).toNat n s (by omega)
  refine ⟨by unfold foundErr; rw [if_pos hok2], by unfold foundOut; rw [if_pos hok2, Int.toNat_natCast, hel], f1, ?_, ⟨a0, a39, s1, hs⟩, ?_, findL_short Z _ _ _⟩
  · show ((findL Z (1073741824 - s).toNat n s).2.1 : Int) = _
    rw [f2]
    show (((n + sumT (findL Z (1073741824 - s).toNat n s).1) % 40 : Nat) : Int) = ((n : Int) + (sumT (findL Z (1073741824 - s).toNat n s).1 : Int)) % 40
    omega
  · exact Nat.le_trans (findL_many Z _ _ _) (by omega)

set_option maxRecDepth 100000 in
set_option maxHeartbeats 6400000 in
theorem walk (a0 : Option Addr) (len0 cap0 : Nat) (z0 : List (List Int)) (n1 m1 : Int) (w : World) (w0 : RowsIn w a0 len0 cap0 z0) (w1 : I64 n1 ∧ I64 m1) :
    Calls Try.prog 8 #[.slice a0 len0 cap0, .agg #[.int .i64 n1, .int .i64 m1]] w fun e w' => e = .returned (.bool true) ∧ Below w.heap.size w w' := by
  have HI := Lib.hid w1
  have HR := Lib.hid w0
  clear w0 w1
  have cL := fun W (hW : Below w.heap.size w W) => logOk.find n1 m1 HI.out.1 HI.out.2 (HR.out.later hW)
  have cA := fun W => awake15 logOk W
  obtain ⟨W0, hW0⟩ : ∃ W0, w.alloc (.cells #[.int .i64 n1, .int .i64 m1] 40) = W0 := ⟨_, rfl⟩
  have B0 : Hid (Below w.heap.size w W0) := Lib.hid (by rw [← hW0]; exact (Below.refl _ _).alloc (Nat.le_refl _) _)
  have x0 : W0.cell? ⟨w.heap.size, 0, none⟩ = some (.int .i64 n1) := by rw [← hW0, World.cell?_alloc_new]; rfl
  have x1 : W0.cell? ⟨w.heap.size, 1, none⟩ = some (.int .i64 m1) := by rw [← hW0, World.cell?_alloc_new]; rfl
  have hE2 : foundErr z0 n1 m1 = 0 ∨ foundErr z0 n1 m1 = 2 := by unfold foundErr; split; exact Or.inl rfl; exact Or.inr rfl
  have hsome := fun (h : foundErr z0 n1 m1 = 0) (h2 : (foundOut z0 n1 m1).1 ≠ []) => found_some h h2
  have cM := fun W (hW : Below w.heap.size w W) (hm : I64 (m1 + 1)) => logOk.find n1 (m1 + 1) HI.out.1 hm (HR.out.later hW)
  generalize foundOut z0 n1 m1 = O at *
  generalize foundErr z0 n1 m1 = E at *
  obtain ⟨ls, ra, rs⟩ := O
  simp only at hsome
  rcases hE2 with rfl | rfl
  case inr =>
    clear hsome cM
    go_enter Try.func8, Try.ntmps8
    go_wp2_with (first
      | (go_at_call 13; refine (cA _).mono ?_; rintro e w8 ⟨rfl, hb8⟩; have B8 := Lib.hid (B7.out.trans (hb8.mono B7.out.size)); clear hb8)
      | (go_at_call 13; refine (cA _).mono ?_; rintro e w7 ⟨rfl, hb7⟩; have B7 := Lib.hid (B3.out.trans (hb7.mono B3.out.size)); clear hb7)
      | (go_at_call 19; refine (cL _ B0.out).mono ?_; rintro e w3 ⟨ao3, p3, rfl, hL3, hb3⟩; obtain ⟨W3, hW3⟩ : ∃ W, w3.alloc (.cells #[.int .i64 ra, .int .i64 rs] 40) = W := ⟨_, rfl⟩; have b3 : Below W0.heap.size W0 W3 := (by rw [← hW3]; exact hb3.alloc hb3.size _); have B3 := Lib.hid (B0.out.trans (b3.mono B0.out.size)); clear hL3 hb3 b3))
    go_ret
    exact ⟨rfl, B8.out⟩
  case inl =>
    by_cases hls : ls = []
    · subst hls
      clear hsome cM
      go_enter Try.func8, Try.ntmps8
      go_wp2_with (first
        | (go_at_call 13; refine (cA _).mono ?_; rintro e w8 ⟨rfl, hb8⟩; have B8 := Lib.hid (B7.out.trans (hb8.mono B7.out.size)); clear hb8)
        | (go_at_call 13; refine (cA _).mono ?_; rintro e w7 ⟨rfl, hb7⟩; have B7 := Lib.hid (B3.out.trans (hb7.mono B3.out.size)); clear hb7)
        | (go_at_call 19; refine (cL _ B0.out).mono ?_; rintro e w3 ⟨ao3, p3, rfl, hL3, hb3⟩; obtain ⟨W3, hW3⟩ : ∃ W, w3.alloc (.cells #[.int .i64 ra, .int .i64 rs] 40) = W := ⟨_, rfl⟩; have b3 : Below W0.heap.size W0 W3 := (by rw [← hW3]; exact hb3.alloc hb3.size _); have B3 := Lib.hid (B0.out.trans (b3.mono B0.out.size)); clear hL3 hb3 b3))
      go_ret
      exact ⟨rfl, B8.out⟩
    obtain ⟨e2, o2, hrs, hra, hbd, hlen, hshort⟩ := hsome rfl hls
    have HBD := Lib.hid hbd
    have cM2 : Hid (∀ W, Below w.heap.size w W → Calls Try.prog 19 #[.slice a0 len0 cap0, .agg #[.int .i64 n1, .int .i64 (m1 + 1)]] W (HandedF W.heap.size W ([], n1, m1 + 1) 0)) := Lib.hid (fun W hW => by
      have c := cM W hW (by have := HBD.out; unfold I64; omega)
      rw [e2, o2] at c
      exact c)
    have HRA : Hid (ra = (n1 + (sumT ls : Int)) % 40) := Lib.hid hra
    have HSH := Lib.hid hshort
    have HLN : Hid (0 < ls.length ∧ ls.length ≤ 1073741824) := Lib.hid ⟨List.length_pos_iff.2 hls, hlen⟩
    subst hrs
    have i1 : (0 : Int) ≤ n1 := hbd.1
    have i2 : n1 ≤ 39 := hbd.2.1
    have i3 : (1 : Int) ≤ m1 := hbd.2.2.1
    have i4 : m1 < 1073741824 := hbd.2.2.2
    have i5 : (0 : Int) < (ls.length : Int) := by have := List.length_pos_iff.2 hls; omega
    have i6 : (ls.length : Int) ≤ 1073741824 := by omega
    have b1 : ((ls.length : Int) == 0) = false := by simp; omega
    clear hsome cM e2 o2 hra hbd hlen hshort hls
    go_enter Try.func8, Try.ntmps8
    go_wp2_with (first
      | (go_at_call 19; refine (cM2.out _ B8.out).mono ?_; rintro e w9 ⟨ao9, p9, rfl, _, hb9⟩; obtain ⟨W9, hW9⟩ : ∃ W, w9.alloc (.cells #[.int .i64 n1, .int .i64 (m1 + 1)] 40) = W := ⟨_, rfl⟩; have b9 : Below W8.heap.size W8 W9 := (by rw [← hW9]; exact hb9.alloc hb9.size _); have B9 := Lib.hid (B8.out.trans (b9.mono B8.out.size)); have v0 := cell_later b9 t0; have v1 := cell_later b9 t1; have g0 := cell_later b9 u0; have g1 := cell_later b9 u1; have r0 := cell_later b9 q0; have r1 := cell_later b9 q1; have k0 : W9.cell? ⟨w9.heap.size, 0, none⟩ = some (.int .i64 n1) := (by rw [← hW9, World.cell?_alloc_new]; rfl); have k1 : W9.cell? ⟨w9.heap.size, 1, none⟩ = some (.int .i64 (m1 + 1)) := (by rw [← hW9, World.cell?_alloc_new]; rfl); have L9 := Lib.hid (L8.out.later b9); clear hb9 b9)
      | (go_at_call 13; refine (cA _).mono ?_; rintro e w7 ⟨rfl, hb7⟩; have B7 := Lib.hid (B3.out.trans (hb7.mono B3.out.size)); have s0 := cell_later hb7 s0; have s1 := cell_later hb7 s1; have z0' := cell_later hb7 y0; have z1 := cell_later hb7 y1; have y0 := z0'; have y1 := z1; have L3 := Lib.hid (L3.out.later hb7); obtain ⟨W7, hW7⟩ : ∃ W, w7.alloc (.cells #[.int .i64 n1, .int .i64 m1] 40) = W := ⟨_, rfl⟩; have b7 : Below w7.heap.size w7 W7 := (by rw [← hW7]; exact (Below.refl _ _).alloc (Nat.le_refl _) _); have y0 := cell_later b7 y0; have y1 := cell_later b7 y1; have o0 : W7.cell? ⟨w7.heap.size, 0, none⟩ = some (.int .i64 n1) := (by rw [← hW7, World.cell?_alloc_new]; rfl); have o1 : W7.cell? ⟨w7.heap.size, 1, none⟩ = some (.int .i64 m1) := (by rw [← hW7, World.cell?_alloc_new]; rfl); have f1 : W7.frozen? ⟨w7.heap.size, 1, none⟩ = false := (by rw [← hW7, World.frozen?_alloc_mark]; simp); obtain ⟨W8, hW8⟩ : ∃ W, W7.setCell ⟨w7.heap.size, 1, none⟩ (.int .i64 (m1 + 1)) = W := ⟨_, rfl⟩; have b8 : Below w7.heap.size w7 W8 := (by rw [← hW8]; exact b7.setCell (Nat.le_refl _) _); have B8 := Lib.hid (B7.out.trans (b8.mono B7.out.size)); have t0 := cell_later b8 s0; have t1 := cell_later b8 s1; have u1 := cell_later b8 z1; have u0 := cell_later b8 z0'; have L8 := Lib.hid (L3.out.later b8); have q0 : W8.cell? ⟨w7.heap.size, 0, none⟩ = some (.int .i64 n1) := (by rw [← hW8, World.cell?_setCell_other (h := by simp)]; exact o0); have q1 : W8.cell? ⟨w7.heap.size, 1, none⟩ = some (.int .i64 (m1 + 1)) := (by rw [← hW8]; exact World.cell?_setCell_same W7 _ _ o1); clear hb7 b7 b8 z1 z0')
      | (go_at_call 19; refine (cL _ B0.out).mono ?_; rintro e w3 ⟨ao3, p3, rfl, hL3, hb3⟩; obtain ⟨W3, hW3⟩ : ∃ W, w3.alloc (.cells #[.int .i64 ra, .int .i64 (m1 + (ls.length : Int))] 40) = W := ⟨_, rfl⟩; have b3 : Below W0.heap.size W0 W3 := (by rw [← hW3]; exact hb3.alloc hb3.size _); have B3 := Lib.hid (B0.out.trans (b3.mono B0.out.size)); have y0 := cell_later b3 x0; have y1 := cell_later b3 x1; have s0 : W3.cell? ⟨w3.heap.size, 0, none⟩ = some (.int .i64 ra) := (by rw [← hW3, World.cell?_alloc_new]; rfl); have s1 : W3.cell? ⟨w3.heap.size, 1, none⟩ = some (.int .i64 (m1 + (ls.length : Int))) := (by rw [← hW3, World.cell?_alloc_new]; rfl); have L3 : Hid (LIs W3 ao3 ls.length ls) := Lib.hid (by rw [← hW3]; exact hL3.later ((Below.refl _ _).alloc (Nat.le_refl _) _)); clear hL3 hb3 b3))
    go_loop [12, 13] (fun av iv => ∃ i : Nat, iv = .int .i64 (i : Int) ∧ av = .int .i64 ((sumT (ls.take i) : Nat) : Int) ∧ i ≤ ls.length) (fun _ iv => ls.length - (intOf iv).toNat)
    case atStart => exact ⟨0, rfl, rfl, Nat.zero_le _⟩
    case round =>
      obtain ⟨i, rfl, rfl, hi⟩ := hrel
      have hsum : sumT (ls.take i) ≤ 22 * i := by
        have h := sum_le (ls.take i) (fun x hx => HSH.out x (List.mem_of_mem_take hx))
        rw [List.length_take, Nat.min_eq_left hi] at h
        exact h
      by_cases hlt : i < ls.length
      · obtain ⟨b1', o1', l, ad1, c1, rfl, hl1, h1, hw1⟩ := L9.out.at hlt
        have HS := Lib.hid (sum_step ls hl1)
        have hl20 := HSH.out l (List.mem_of_getElem? hl1)
        obtain ⟨A, hA⟩ : ∃ A, sumT (ls.take i) = A := ⟨_, rfl⟩
        rw [hA] at HS hsum ⊢
        have j0 : (0 : Int) ≤ (i : Int) := by omega
        have j1 : (i : Int) < (ls.length : Int) := by omega
        have j2 : (A : Int) ≤ 23622320128 := by omega
        have j3 : (0 : Int) ≤ (A : Int) := by omega
        have j4 : (l.length : Int) ≤ 20 := by omega
        have j5 : (0 : Int) ≤ (l.length : Int) := by omega
        clear hl1 hw1 hsum hA hl20
        go_wp2_with fail
        go_round
        case rel => exact ⟨i + 1, by go_num, by rw [HS.out]; congr 1; (try omega), by omega⟩
        case measure => simp [intOf]; omega
      · obtain rfl : i = ls.length := by omega
        have HRX := HRA.out
        rw [List.take_length] at hsum ⊢
        obtain ⟨A, hA⟩ : ∃ A, sumT ls = A := ⟨_, rfl⟩
        rw [hA] at HRX hsum ⊢
        have j2 : (A : Int) ≤ 23622320128 := by omega
        have j3 : (0 : Int) ≤ (A : Int) := by omega
        have x3 : Int.tmod (n1 + (A : Int)) 40 = ra := by rw [IntWalk.rem_in _ _ (by omega)]; omega
        clear hsum hA HRX
        go_wp2_with fail
        go_ret
        exact ⟨rfl, B9.out⟩

/-! ### The law's step -/
set_option maxRecDepth 100000 in
theorem lifted (os : Os) (started : os.Started) (H : Type) (enc : TypeId × Value → H) :
    ReturnsInHanded {} Try.checked os 8 .any (Rows.logElderSpec.pre6 enc Try.prog Try.f8 Rows.logElderRow.domain false) (Rows.logElderSpec.post enc Try.prog Try.f8 false true false false) := by
  refine returnsInHanded_of_change_sized (C := Try.checked) own started (by kernel_rfl) Try.func8
    (ChangeSpec.witness6 (enc := enc) (C := Try.checked) false ⟨#[], #[.slice none 0 0, .agg #[.int .i64 0, .int .i64 0]], []⟩ 8 (by kernel_rfl) (by kernel_rfl) (by kernel_rfl) (by kernel_rfl)) ?_
  intro W base args ds gs before hval0 hW hcnd hsz0 _
  have hsz : (DataW.weightsEach Try.prog (Try.f8.params.toList ++ Rows.logElderSpec.plain.varTypes Try.prog) (ds ++ gs)).all (· ≤ reachBytes) = true := hsz0
  clear hsz0
  have hval : ∀ (j : Nat) t v, Try.f8.params[j]? = some t → args[j]? = some v → Value.okWide Try.prog W .any base t v := hval0
  have hW' := hW
  obtain ⟨p, q, hA0, hV, rfl, hfz, hnd⟩ := hW
  have hA : DataW.TrodAll enc Try.prog W 0 (fun _ => true) true Try.f8.params.toList args.toList ds p := hA0
  rw [Try.params8] at hA hval hsz
  obtain ⟨v0, vs0, d0, ds0, p0, q0, hargs, rfl, rfl, h0, r0⟩ := trodAll_cons hA
  obtain ⟨v1, vs1, d1, ds1, p1, q1, rfl, rfl, rfl, h1, r1⟩ := trodAll_cons r0
  obtain ⟨rfl, rfl, rfl⟩ := trodAll_nil r1
  obtain rfl : args = #[v0, v1] := by cases args; simp_all
  obtain ⟨rfl, rfl⟩ := trodVars_none hV
  have k0 := h0
  have lt0 : ∀ x ∈ p0, x.block < W.heap.size := by obtain ⟨m, hm⟩ := k0; exact DataW.trod_lt m _ _ _ hm
  obtain ⟨a0, len0, cap0, rfl⟩ := okWide_slice Try.underlying38 (hval 0 38 v0 rfl rfl)
  obtain ⟨z0, w0⟩ := open_rows k0
  have k1 := h1
  have lt1 : ∀ x ∈ p1, x.block < W.heap.size := by obtain ⟨m, hm⟩ := k1; exact DataW.trod_lt m _ _ _ hm
  obtain ⟨n1, m1, rfl, w1⟩ := open_hd (hval 1 40 v1 rfl rfl) h1
  clear hA0 hval0
  refine (walk a0 len0 cap0 z0 n1 m1 W w0 w1).mono fun e W' ⟨he, bel⟩ => ?_
  subst he
  exact ⟨_, rfl, _, _, _, [], _, [], hW', trodAll_mk1 (shut_bool Try.underlying4 _), (trodAll_cons_mk (Below.trod laidOut (by kernel_rfl) (of_decide_eq_true (by kernel_rfl)) k0 bel lt0) (trodAll_cons_mk (Below.trod laidOut (by kernel_rfl) (of_decide_eq_true (by kernel_rfl)) k1 bel lt1) trodAll_mk0)), rfl, bel.frame _, fun h => by cases h⟩

theorem over : Rows.logElderRow.holds Try.pinned (OpenSpec.ofChange Rows.logElderSpec) :=
  OpenClaim.holds_of_wide 8 Try.f8 rfl rfl rfl rfl rfl rfl rfl ⟨rfl, rfl, rfl, rfl, rfl⟩ rfl rfl rfl rfl rfl (by kernel_rfl) Try.func8 (by kernel_rfl)
    (of_decide_eq_true (by kernel_rfl)) (by unfold Func.isWrapper; first | (rw [if_pos (by decide +kernel)]; kernel_rfl) | (rw [if_neg (by decide +kernel)]; exact ⟨rfl, rfl⟩))
    (fun os started H enc _ => lifted os started H enc)

/-- The statement. -/
theorem proved : Rows.LogElderSaid := over
end Go.Proofs.Ytpmggbdmoopkfaa.logElder
