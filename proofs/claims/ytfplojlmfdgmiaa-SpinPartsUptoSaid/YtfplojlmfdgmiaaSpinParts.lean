/-
  Proved here: a text may be summed in two parts, by spin.More or by spin.Join, whatever the two parts are. Condition: the two parts hold together at most 1048576 values (the given second form of the statement).
-/
import Derived.Test.YtfplojlmfdgmiaaLaw
import Derived.JoinedCond
namespace Go.Proofs.Ytfplojlmfdgmiaa.spinParts
open Go.ChangeShapes Go.WideShapes Go.ChangeAt Go.RowKit

theorem nil_len {w : World} {a : Option Addr} {len cap : Nat} {zs : List Int} (h : IsRow .u8 w a len cap zs) : a = none → len = 0 ∧ cap = 0 := by
  rcases h with ⟨rfl, rfl, rfl, rfl⟩ | ⟨x, rfl, _⟩
  · exact fun _ => ⟨rfl, rfl⟩
  · intro h; cases h

set_option maxHeartbeats 400000 in
theorem walk (a0 : Option Addr) (len0 cap0 : Nat) (z0 : List Int) (a1 : Option Addr) (len1 cap1 : Nat) (z1 : List Int) (w : World) (w0 : IsRow .u8 w a0 len0 cap0 z0) (w1 : IsRow .u8 w a1 len1 cap1 z1)
    (small : len0 + len1 ≤ 1048576) : Calls Try.prog 5 #[.slice a0 len0 cap0, .slice a1 len1 cap1] w fun e w' => e = .returned (.bool true) ∧ Below w.heap.size w w' := by
  have hB0 := w0.bts
  have hB1 := w1.bts
  have hn0 := nil_len w0
  have hn1 := nil_len w1
  obtain ⟨xs, HX⟩ : ∃ zs, Hid (zs = z0.take len0) := ⟨_, Lib.hid rfl⟩
  obtain ⟨ys, HY⟩ : ∃ zs, Hid (zs = z1.take len1) := ⟨_, Lib.hid rfl⟩
  rw [← HX.out] at hB0
  rw [← HY.out] at hB1
  clear w0 w1 HX HY
  have hz : ∀ z ∈ xs ++ ys, 0 ≤ z ∧ z ≤ 255 := fun z h => (List.mem_append.1 h).elim (hB0.2.2.1 z) (hB1.2.2.1 z)
  have hown := World.ownsRow_made (base := w.heap.size) (e := 5) (size := 1) w #[] 0 (Nat.le_refl _) (by decide) rfl
  have hb0 : Below w.heap.size w (w.alloc (.cells #[] 5)) := (Below.refl _ _).alloc (Nat.le_refl _) _
  have hA0 := hB0.later hb0
  have hL1 : ys.length = len1 := hB1.1
  have H0 : Hid (∀ w', Below w.heap.size w w' → Bts w' a0 len0 xs) := Lib.hid (fun w' h => hB0.later h)
  have H1 : Hid (∀ w', Below w.heap.size w w' → Bts w' a1 len1 ys) := Lib.hid (fun w' h => hB1.later h)
  have HZ := Lib.hid hz
  have HN0 := Lib.hid hn0
  have HN1 := Lib.hid hn1
  have HM : Hid (moreS (sumS xs) ys = sumS (xs ++ ys)) := Lib.hid (more_sum xs ys)
  have HJ : Hid (joinS (sumS xs) (sumS ys) (Int.toNat (len1 : Int)) = sumS (xs ++ ys)) := Lib.hid (by
    have e : Int.toNat (len1 : Int) = ys.length := by rw [hL1]; omega
    rw [e]; exact join_sum xs ys)
  clear hB0 hB1 hz hn0 hn1 hL1
  go_enter Try.func5, Try.ntmps5
  go_wp2_with (first | (at_builtin; refine wp_append_bytes rfl (.tmp 6) (.tmp 7) rfl w.heap.size 0 _ [] rfl hown a0 len0 cap0 xs rfl hA0 HN0.out (by omega) (by simp) ?_; intro v1 w1 hown1 hb1; have hb2 := hb0.trans hb1; have hA1 := H1.out w1 hb2; have hsz := hb2.size; clear hb1 hown hA0) | (at_builtin; refine wp_append_bytes rfl (.tmp 8) (.tmp 9) rfl w.heap.size (0 + len0) _ _ rfl hown1 a1 len1 cap1 ys rfl hA1 HN1.out (by omega) hsz ?_; intro v2 w2 hown2 hb3; have hb4 := hb2.trans hb3; clear hb3 hown1 hA1))
  have hown3 : w2.ownsRow w.heap.size 5 1 v2 (0 + len0 + len1) ((xs ++ ys).map (Value.int .u8)) := by
    rw [List.map_append]
    exact hown2
  obtain ⟨ao, cp, hv2, hB2⟩ := owns_bts hown3 HZ.out (by omega)
  have cA : Calls Try.prog 11 #[v2] w2 fun e w' => e = .returned (.int .u32 (sumS (xs ++ ys))) ∧ w2 = w' := by
    rw [hv2]
    exact Sum_any ao _ cp (xs ++ ys) w2 hB2
  clear hown2 hown3 hv2 hB2
  refine cA.mono ?_
  rintro e w' ⟨rfl, rfl⟩
  clear cA
  go_wp2_with fail
  refine (awake_any _).mono ?_
  rintro e w3 ⟨rfl, hb5⟩
  have hb6 := hb4.trans (hb5.mono hb4.size)
  have cX := Sum_any a0 len0 cap0 xs w3 (H0.out w3 hb6)
  have cY := Sum_any a1 len1 cap1 ys w3 (H1.out w3 hb6)
  have cM := More_any (sumS xs) a1 len1 cap1 ys w3 (sumS_bounds xs).1 (sumS_bounds xs).2 (H1.out w3 hb6)
  have cJ := Join_any (sumS xs) (sumS ys) (len1 : Int) w3 (sumS_bounds xs).1 (sumS_bounds xs).2 (sumS_bounds ys).1 (sumS_bounds ys).2 (by omega) (by omega)
  rw [HM.out] at cM
  rw [HJ.out] at cJ
  generalize sumS (xs ++ ys) = S at *
  generalize sumS xs = X at *
  generalize sumS ys = Y at *
  go_wp2_with (first | (go_at_call 11; first | ((with_reducible refine cX.mono ?_); rintro e w' ⟨rfl, rfl⟩) | ((with_reducible refine cY.mono ?_); rintro e w' ⟨rfl, rfl⟩)) | (go_at_call 13; refine cM.mono ?_; rintro e w' ⟨rfl, rfl⟩) | (go_at_call 15; refine cJ.mono ?_; rintro e w' ⟨rfl, rfl⟩))
  go_ret
  exact ⟨rfl, hb6⟩

/-- What the bound gives. -/
theorem short {H : Type} {d0 d1 : DataW H} (hk : Rows.uptoSmall H [d0, d1] = true) : Rows.uptoBulk d0 + Rows.uptoBulk d1 ≤ 1048576 := by
  have h : Rows.uptoBulkAll [d0, d1] ≤ 1048576 := of_decide_eq_true hk
  simp only [Rows.uptoBulkAll] at h
  omega

theorem contract (H : Type) (enc : TypeId × Value → H) (W : World) (base : Nat) (args : Array Value) (ds gs : List (DataW H)) (before : List MemPlace)
    (hval0 : ∀ (j : Nat) t v, Try.f5.params[j]? = some t → args[j]? = some v → Value.okWide Try.prog W .any base t v)
    (hW : DataW.Whole enc Try.prog Try.f5.params.toList Rows.spinPartsSpec.vars false W args.toList ds gs before) (hk : Rows.uptoSmall H (ds ++ gs) = true) :
    Calls Try.prog 5 args W fun e W' => ∃ v, e = .returned v ∧ Rows.spinPartsSpec.post enc Try.prog Try.f5 false true false false W args v W' := by
  have hval : ∀ (j : Nat) t v, Try.f5.params[j]? = some t → args[j]? = some v → Value.okWide Try.prog W .any base t v := hval0
  have hW' := hW
  obtain ⟨p, q, hA0, hV, rfl, hfz, hnd⟩ := hW
  have hA : DataW.TrodAll enc Try.prog W 0 (fun _ => true) true Try.f5.params.toList args.toList ds p := hA0
  rw [Try.params5] at hA hval
  obtain ⟨v0, vs0, d0, ds0, p0, q0, hargs, rfl, rfl, h0, r0⟩ := trodAll_cons hA
  obtain ⟨v1, vs1, d1, ds1, p1, q1, rfl, rfl, rfl, h1, r1⟩ := trodAll_cons r0
  obtain ⟨rfl, rfl, rfl⟩ := trodAll_nil r1
  obtain rfl : args = #[v0, v1] := by cases args; simp_all
  obtain ⟨rfl, rfl⟩ := trodVars_none hV
  obtain ⟨a0, len0, cap0, rfl⟩ := okWide_slice Try.underlying23 (hval 0 23 v0 rfl rfl)
  have k0 := h0
  have lt0 : ∀ x ∈ p0, x.block < W.heap.size := by obtain ⟨m, hm⟩ := k0; exact DataW.trod_lt m _ _ _ hm
  obtain ⟨z0, w0, b0⟩ := open_bulk k0
  obtain ⟨a1, len1, cap1, rfl⟩ := okWide_slice Try.underlying23 (hval 1 23 v1 rfl rfl)
  have k1 := h1
  have lt1 : ∀ x ∈ p1, x.block < W.heap.size := by obtain ⟨m, hm⟩ := k1; exact DataW.trod_lt m _ _ _ hm
  obtain ⟨z1, w1, b1⟩ := open_bulk k1
  clear hA0 hval0
  have hsm := short hk
  have l0 := w0.len_le
  have l1 := w1.len_le
  refine (walk a0 len0 cap0 z0 a1 len1 cap1 z1 W w0 w1 (by omega)).mono fun e W' ⟨he, bel⟩ => ?_
  subst he
  exact ⟨_, rfl, _, _, _, [], _, [], hW', trodAll_mk1 (shut_bool Try.underlying4 _), (trodAll_cons_mk (Below.trod laidOut (by kernel_rfl) (of_decide_eq_true (by kernel_rfl)) k0 bel lt0) (trodAll_cons_mk (Below.trod laidOut (by kernel_rfl) (of_decide_eq_true (by kernel_rfl)) k1 bel lt1) trodAll_mk0)), rfl, bel.frame _, fun h => by cases h⟩

set_option maxRecDepth 100000 in
theorem lifted (os : Os) (started : os.Started) (H : Type) (enc : TypeId × Value → H) (F : Stop.Interp) :
    ReturnsInHanded {} Try.checked os 5 .any ((Rows.OpenSpec.upto Rows.spinPartsSpec).pre6 enc Try.prog Try.f5 Rows.spinPartsUptoRow.domain false) (((Rows.OpenSpec.upto Rows.spinPartsSpec).at F).post enc Try.prog Try.f5 false true false false) := by
  refine returnsInHanded_of_cond (C := Try.checked) (s := Rows.OpenSpec.upto Rows.spinPartsSpec) (k := Rows.uptoSmall) rfl own started (by kernel_rfl) Try.func5
    (OpenSpec.witness (enc := enc) (C := Try.checked) (s := Rows.OpenSpec.upto Rows.spinPartsSpec) (k := Rows.uptoSmall) rfl false ⟨#[], #[.slice none 0 0, .slice none 0 0], []⟩ 8 (by kernel_rfl) (by kernel_rfl) (by kernel_rfl)
      (x := ([.nil, .nil], [], [])) (by kernel_rfl) rfl (by kernel_rfl)) ?_
  intro W base args ds gs before hval hW _ hk _
  exact contract H enc W base args ds gs before hval hW hk

theorem proved : Rows.SpinPartsUptoSaid :=
  OpenClaim.holds_of_cond 5 Try.f5 rfl rfl rfl rfl rfl rfl rfl ⟨rfl, rfl, rfl, rfl, rfl⟩ rfl rfl rfl rfl rfl (by kernel_rfl) Try.func5 (by kernel_rfl)
    (of_decide_eq_true (by kernel_rfl)) (by unfold Func.isWrapper; first | (rw [if_pos (by decide +kernel)]; kernel_rfl) | (rw [if_neg (by decide +kernel)]; exact ⟨rfl, rfl⟩))
    (fun os started H enc _ F => lifted os started H enc F)

end Go.Proofs.Ytfplojlmfdgmiaa.spinParts
