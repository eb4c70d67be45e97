/-
  Proved here: what the document's own Begin and End of a log answer.
  The conditions stand at each theorem.
-/
import Derived.Test.YtpmggbdmoopkfaaRef15
import Derived.Test.YtpmggbdmoopkfaaRef04Put
import Derived.Test.YtpmggbdmoopkfaaStep
namespace Go.Proofs.Ytpmggbdmoopkfaa
open Go.RowKit
set_option linter.unusedVariables false
set_option linter.unusedSimpArgs false

theorem wp_append_text {ops : Array Oper} {rest : List Oper} {o : Oper} {a : Act} {Q : Exit → Act → World → Prop} {w : World} (hgd : o.guard = none) (s x : Operand)
    (ho : o.op = .call { callee := .builtin .append, args := #[s, x], argTypes := #[25, 9] }) (base n : Nat) (v : Value) (xs : List Value) (hs : a.eval s = v) (hown : w.ownsRow base 5 1 v n xs)
    (t : ByteArray) (hx : a.eval x = .string t) (hb : n + t.size ≤ 140737488355328) (hbase : base ≤ w.heap.size)
    (h : ∀ v' w', w'.ownsRow base 5 1 v' (n + t.size) (xs ++ (bytesOf t).map (Value.int .u8)) → Below base w w' → wpList Try.prog ops Q rest (a.put o.dst v') w') : wpList Try.prog ops Q (o :: rest) a w := by
  obtain ⟨v', w', hrun, h1, h2⟩ := run_append_text w o.type base n v xs hown t hb hbase
  refine wpList_plain hgd fun K hK => ?_
  unfold Oper.wp
  simp [execOp, ho, resolve, invoke, builtin, hs, hx, hrun, Result.andThen]
  exact hK _ _ (h v' w' h1 h2)

theorem put04 {base : Nat} {w : World} {v : Value} {len : Nat} {zs : List Int} {n : Int} {kz : Int} (k : Nat) (e : kz = k) (hown : w.ownsRow base 5 1 v len (zs.map (Value.int .u8))) (hbase : base ≤ w.heap.size)
    (hn : 0 ≤ n ∧ n ≤ 1073741824) (hk : k ≤ 8) (hlen : len ≤ 1000) : Calls Try.prog 28 #[v, .int .i64 n, .int .i64 kz] w (PutPost base w (len + k) (zs ++ leB n k)) := by
  subst e
  exact Put04_any base v len zs n k w hown hbase hn.1 (by omega) hk (by omega)

theorem seal04 {base n : Nat} {w : World} {v : Value} {zs : List Int} (h : w.ownsRow base 5 1 v n (zs.map (Value.int .u8))) (hz : ∀ z ∈ zs, 0 ≤ z ∧ z ≤ 255) (hn : n ≤ 1000) : Calls Try.prog 29 #[v] w (Gives w.heap.size w (sealOf sumS zs)) := by
  obtain ⟨ao, cap, rfl, hA, _⟩ := fresh_of_owns h hz (by omega)
  exact Seal04_any ao _ cap zs w hA

/-- A list that was just made, empty. -/
theorem empty_new (w : World) : (w.alloc (.cells #[] 5)).ownsRow w.heap.size 5 1 (.slice (some ⟨w.heap.size, 0, none⟩) 0 0) 0 [] :=
  World.ownsRow_made (base := w.heap.size) (e := 5) (size := 1) w #[] 0 (Nat.le_refl _) (by decide) rfl

theorem okEnd_iff (seq c : Int) : okEnd seq c = true ↔ 1 ≤ seq ∧ seq ≤ 1073741824 ∧ 1 ≤ c ∧ c ≤ 20 := by unfold okEnd; rw [decide_eq_true_eq]

set_option maxHeartbeats 1600000 in
theorem REnd_any (seq c : Int) (w : World) : Calls Try.prog 16 #[.int .i64 seq, .int .i64 c] w (Handed w.heap.size w (endOut seq c) (endErr seq c)) := by
  by_cases hok : 1 ≤ seq ∧ seq ≤ 1073741824 ∧ 1 ≤ c ∧ c ≤ 20
  case neg =>
    have HE : Hid (endOut seq c = [] ∧ endErr seq c = 2) := Lib.hid (by
      have e : okEnd seq c = false := by unfold okEnd; exact decide_eq_false hok
      unfold endOut endErr; rw [e]; exact ⟨rfl, rfl⟩)
    have HN := Lib.hid hok
    clear hok
    by_cases h1 : seq < 1
    · clear HN
      go_enter Try.func16, Try.ntmps16
      go_wp2_with fail
      go_ret2
      exact ⟨.slice none 0 0, by rw [HE.out.2]; rfl, by rw [HE.out.1]; exact Fresh.nil _ _, Below.refl _ _⟩
    by_cases h2 : 1073741824 < seq
    · clear HN
      go_enter Try.func16, Try.ntmps16
      go_wp2_with fail
      go_ret2
      exact ⟨.slice none 0 0, by rw [HE.out.2]; rfl, by rw [HE.out.1]; exact Fresh.nil _ _, Below.refl _ _⟩
    by_cases h3 : c < 1
    · clear HN
      go_enter Try.func16, Try.ntmps16
      go_wp2_with fail
      go_ret2
      exact ⟨.slice none 0 0, by rw [HE.out.2]; rfl, by rw [HE.out.1]; exact Fresh.nil _ _, Below.refl _ _⟩
    have h4 : 20 < c := by have := HN.out; omega
    clear HN
    go_enter Try.func16, Try.ntmps16
    go_wp2_with fail
    go_ret2
    exact ⟨.slice none 0 0, by rw [HE.out.2]; rfl, by rw [HE.out.1]; exact Fresh.nil _ _, Below.refl _ _⟩
  have HE : Hid (endOut seq c = sealOf sumS (endL seq c) ∧ endErr seq c = 0) := Lib.hid (by
    have e : okEnd seq c = true := by unfold okEnd; exact decide_eq_true hok
    unfold endOut endErr; rw [e]; exact ⟨rfl, rfl⟩)
  have HN := Lib.hid hok
  obtain ⟨h1, h2, h3, h4⟩ := hok
  have HM := Lib.hid (empty_new w)
  have HB0 : Hid (Below w.heap.size w (w.alloc (.cells #[] 5))) := Lib.hid ((Below.refl _ _).alloc (Nat.le_refl _) _)
  go_enter Try.func16, Try.ntmps16
  go_wp2_with (first
    | (go_at_call 29; refine (seal04 O3.out (endL_bytes seq c) (by decide)).mono ?_; rintro e w4 ⟨v4, rfl, h5, b5⟩; have B4 := Lib.hid (B3.out.trans (b5.mono B3.out.size)); have R4 := Lib.hid (h5.mono B3.out.size); clear h5 b5)
    | (go_at_call 28; refine (put04 1 rfl O2.out B2.out.size (n := c) (by have := HN.out; omega) (by decide) (by decide)).mono ?_; rintro e w3 ⟨v3, rfl, h5, b5⟩; have B3 := Lib.hid (B2.out.trans b5); have O3 := Lib.hid h5; clear h5 b5)
    | (go_at_call 28; refine (put04 4 rfl O1.out B1.out.size (n := seq) (by have := HN.out; omega) (by decide) (by decide)).mono ?_; rintro e w2 ⟨v2, rfl, h5, b5⟩; have B2 := Lib.hid (B1.out.trans b5); have O2 := Lib.hid h5; clear h5 b5)
    | (at_builtin; refine wp_append_text rfl (.tmp 21) _ rfl w.heap.size 0 _ [] rfl HM.out _ rfl (by decide) (by simp) ?_; intro v1 w1 hown1 hb1; have B1 := Lib.hid (HB0.out.trans hb1); have O1 : Hid (w1.ownsRow w.heap.size 5 1 v1 4 (([68, 79, 78, 69] : List Int).map (Value.int .u8))) := Lib.hid hown1; clear hown1 hb1))
  go_ret2
  exact ⟨_, by rw [HE.out.2]; rfl, by rw [HE.out.1]; exact R4.out, B4.out⟩

/-- A block's first fields, and its first numbers. -/
def begP (seq : Int) (to : List Int) (i : Nat) : List Int := [66, 69, 71, 78] ++ leB seq 4 ++ leB to.length 2 ++ toL (to.take i)
theorem begP_step {seq : Int} {to : List Int} {i : Nat} {x : Int} (h : to[i]? = some x) : begP seq to i ++ leB x 2 = begP seq to (i + 1) := by
  unfold begP toL
  rw [List.take_add_one, h, List.flatMap_append, List.append_assoc]
  simp

set_option maxHeartbeats 3200000 in
theorem RBegin_any {w : World} {ao : Option Addr} {len cap : Nat} {to : List Int} (seq : Int) (hA : IArg w ao len cap to) :
    Calls Try.prog 10 #[.agg #[.int .i64 seq, .slice ao len cap]] w (Handed w.heap.size w (begOut ⟨seq, to⟩) (begErr ⟨seq, to⟩)) := by
  have HL := Lib.hid hA.len
  have HA := Lib.hid hA
  have HB0 : Hid (Below w.heap.size w (w.alloc (.cells #[.int .i64 seq, .slice ao len cap] 24))) := Lib.hid ((Below.refl _ _).alloc (Nat.le_refl _) _)
  have n0 : (w.alloc (.cells #[.int .i64 seq, .slice ao len cap] 24)).cell? ⟨w.heap.size, 0, none⟩ = some (.int .i64 seq) := by rw [World.cell?_alloc_new]; rfl
  have n1 : (w.alloc (.cells #[.int .i64 seq, .slice ao len cap] 24)).cell? ⟨w.heap.size, 1, none⟩ = some (.slice ao len cap) := by rw [World.cell?_alloc_new]; rfl
  have cS := RSound_any seq (hA.later (HB0.out.mono (Nat.le_refl _)))
  by_cases hs : soundD ⟨seq, to⟩ = true
  case neg =>
    have HE : Hid (begOut ⟨seq, to⟩ = [] ∧ begErr ⟨seq, to⟩ = 2) := Lib.hid (by unfold begOut begErr; rw [if_neg hs, if_neg hs]; exact ⟨rfl, rfl⟩)
    rw [Bool.not_eq_true] at hs
    rw [hs] at cS
    clear hs hA
    go_enter Try.func10, Try.ntmps10
    go_wp2_with (go_at_call 27; refine cS.mono ?_; rintro e w2 ⟨rfl, b2⟩; have B2 := Lib.hid (HB0.out.trans (b2.mono HB0.out.size)); clear b2)
    go_ret2
    exact ⟨.slice none 0 0, by rw [HE.out.2]; rfl, by rw [HE.out.1]; exact Fresh.nil _ _, B2.out⟩
  have HE : Hid (begOut ⟨seq, to⟩ = sealOf sumS (begL ⟨seq, to⟩) ∧ begErr ⟨seq, to⟩ = 0) := Lib.hid (by unfold begOut begErr; rw [if_pos hs, if_pos hs]; exact ⟨rfl, rfl⟩)
  have HS := Lib.hid (soundD_parts hs)
  have HLN : Hid (1 ≤ len ∧ len ≤ 20) := Lib.hid (by have := HS.out.1; have h := HL.out; simp only at this; omega)
  have HSQ : Hid (0 ≤ seq ∧ seq ≤ 1073741824) := Lib.hid (by have := HS.out.1; simp only at this; omega)
  rw [hs] at cS
  clear hs hA
  go_enter Try.func10, Try.ntmps10
  go_wp2_with (first
    | (go_at_call 27; refine cS.mono ?_; rintro e w2 ⟨rfl, b2⟩; have B2 := Lib.hid (HB0.out.trans (b2.mono HB0.out.size)); have M0 := Lib.hid (cell_later b2 n0); have M1 := Lib.hid (cell_later b2 n1); have HM := Lib.hid (empty_new w2); have BM : Hid (Below w2.heap.size w2 (w2.alloc (.cells #[] 5))) := Lib.hid ((Below.refl _ _).alloc (Nat.le_refl _) _); clear b2)
    | (go_at_call 28; refine (put04 2 rfl O2.out B4.out.size (n := (len : Int)) (by have := HLN.out; omega) (by decide) (by decide)).mono ?_; rintro e w5 ⟨v5, rfl, h5, b5⟩; have B5 := Lib.hid (B4.out.trans b5); have O5 := Lib.hid h5; have s1 := cell_later B5.out M1.out; clear h5 b5)
    | (go_at_call 28; refine (put04 4 rfl O1.out B1.out.size (n := seq) HSQ.out (by decide) (by decide)).mono ?_; rintro e w4 ⟨v4, rfl, h5, b5⟩; have B4 := Lib.hid (B1.out.trans b5); have O2 := Lib.hid h5; have r1 := cell_later B4.out M1.out; clear h5 b5)
    | (at_builtin; refine wp_append_text rfl (.tmp 9) _ rfl w2.heap.size 0 _ [] rfl HM.out _ rfl (by decide) (by simp) ?_; intro v1 w1 hown1 hb1; have B1 := Lib.hid (BM.out.trans hb1); have O1 : Hid (w1.ownsRow w2.heap.size 5 1 v1 4 (([66, 69, 71, 78] : List Int).map (Value.int .u8))) := Lib.hid hown1; have q0 := cell_later B1.out M0.out; clear hown1 hb1))
  have HW2 := Lib.hid B2.out.size
  have HP0 : Hid (w5.ownsRow w2.heap.size 5 1 v5 (10 + 2 * 0) ((begP seq to 0).map (Value.int .u8))) := Lib.hid (by
    have h := O5.out
    unfold begP
    rw [HL.out]
    rw [List.take_zero, show toL [] = [] from rfl, List.append_nil]
    exact h)
  clear s1 r1 q0 n0 n1
  go_loopw [4, 5] (fun bv iv wr => ∃ i : Nat, iv = .int .i64 (i : Int) ∧ i ≤ len ∧ Hid (wr.ownsRow w2.heap.size 5 1 bv (10 + 2 * i) ((begP seq to i).map (Value.int .u8))) ∧ Hid (Below w2.heap.size w2 wr)) (fun _ iv _ => len - (intOf iv).toNat)
  case atStart => exact ⟨0, rfl, Nat.zero_le _, HP0, B5⟩
  case round =>
    obtain ⟨i, rfl, hi, HR, HB⟩ := hrel
    have n1 := cell_later HB.out M1.out
    by_cases hlt : i < len
    · obtain ⟨fb, fo, x, rfl, hx, hc, _⟩ := HA.out.at hlt
      have d1 : wr.cell? ⟨fb, fo + i, none⟩ = some (.int .i64 x) := cell_later HB.out (cell_later B2.out hc)
      have i1 : (i : Int) < (len : Int) := by omega
      have i0 : (0 : Int) ≤ (i : Int) := by omega
      have HX := Lib.hid hx
      have HXB : Hid (0 ≤ x ∧ x ≤ 1073741824) := Lib.hid (by have := HS.out.2.1 x (List.mem_of_getElem? hx); omega)
      have c2 : (len : Int) ≤ 20 := by have := HLN.out; omega
      clear hc hx
      go_wp2_with (go_at_call 28; refine (put04 2 rfl HR.out HB.out.size (n := x) HXB.out (by decide) (by have := HLN.out; omega)).mono ?_; rintro e w6 ⟨v6, rfl, h5, b5⟩; have B6 := Lib.hid (HB.out.trans b5); have O6 := Lib.hid h5; clear h5 b5)
      go_roundw
      case rel => exact ⟨i + 1, by go_num, by omega, Lib.hid (by have h := O6.out; rw [begP_step HX.out] at h; exact h), B6⟩
      case measure => simp [intOf]; omega
    · obtain rfl : i = len := by omega
      have HF : Hid ((begP seq to i).length = 10 + 2 * i ∧ begP seq to i = begL ⟨seq, to⟩) := Lib.hid (by
        have e : begP seq to i = begL ⟨seq, to⟩ := by unfold begP begL; rw [List.take_of_length_le (by rw [HL.out]; exact Nat.le_refl _)]
        rw [e, begL_length]
        exact ⟨by rw [HL.out], rfl⟩)
      go_wp2_with (go_at_call 29; refine (seal04 HR.out (by rw [HF.out.2]; exact begL_bytes _) (by have := HLN.out; omega)).mono ?_; rintro e w6 ⟨v6, rfl, h5, b5⟩; have B6 := Lib.hid (HB.out.trans (b5.mono HB.out.size)); have R6 := Lib.hid (h5.mono (Nat.le_trans HW2.out HB.out.size)); clear h5 b5)
      go_ret2
      exact ⟨_, by rw [HE.out.2]; rfl, by rw [HE.out.1, ← HF.out.2]; exact R6.out, B2.out.trans (B6.out.mono HW2.out)⟩

end Go.Proofs.Ytpmggbdmoopkfaa
