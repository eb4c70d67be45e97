/-
  Proved here: what the document's own Put (drydockref04) and PutExtent (drydockref09) answer, and what other blocks keep.
  The conditions stand at each theorem.
-/
import Derived.Test.YtojfhhmjoledjaaNRSound
import Derived.Test.YtojfhhmjoledjaaRef04P
namespace Go.Proofs.Ytojfhhmjoledjaa
open Go.RowKit
set_option linter.unusedVariables false
set_option linter.unusedSimpArgs false

theorem put09 {base : Nat} {w : World} {v : Value} {len : Nat} {zs : List Int} {n : Int} {kz : Int} (k : Nat) (e : kz = k) (hown : w.ownsRow base 5 1 v len (zs.map (Value.int .u8))) (hbase : base ≤ w.heap.size)
    (hn : 0 ≤ n ∧ n < 4294967296) (hk : k ≤ 8) (hlen : len ≤ 1000) : Calls Try.prog 23 #[v, .int .i64 n, .int .i64 kz] w (PutPost base w (len + k) (zs ++ leB n k)) := by
  subst e
  exact Put04_any base v len zs n k w hown hbase hn.1 (by omega) hk (by omega)

theorem wp_append_bytes9 {ops : Array Oper} {rest : List Oper} {o : Oper} {a : Act} {Q : Exit → Act → World → Prop} {w : World} (hgd : o.guard = none) (s x : Operand)
    (ho : o.op = .call { callee := .builtin .append, args := #[s, x], argTypes := #[22, 22] }) (base n : Nat) (v : Value) (xs : List Value) (hs : a.eval s = v) (hown : w.ownsRow base 5 1 v n xs)
    (ad : Addr) (m c : Nat) (zs : List Int) (hx : a.eval x = .slice (some ad) m c) (hB : Bts w (some ad) m zs) (hb : n + m ≤ 140737488355328) (hbase : base ≤ w.heap.size)
    (h : ∀ v' w', w'.ownsRow base 5 1 v' (n + m) (xs ++ zs.map (Value.int .u8)) → Below base w w' → w.grownBy w' v.ownBlock → wpList Try.prog ops Q rest (a.put o.dst v') w') : wpList Try.prog ops Q (o :: rest) a w := by
  obtain ⟨i0, hi, hz0, hz1, hz2⟩ := info_parts info5
  exact wpList_append_own w hgd s x 22 ho base 5 i0 (.int .u8 0) 1 1 Try.underlying22 hi hz0 hz1 hz2 rfl (by decide) v n xs hs hown ad m c (zs.map (Value.int .u8)) hx (by rw [List.length_map, hB.1, Nat.mul_one]) (bts_news hB rfl) (one_cells zs)
      (by unfold maxLen; omega) (by omega) hbase (fun v' w' h1 h2 _ => h v' w' h1 ((Below.refl base w).grown h2 hbase (fun k hk => (hown.lt k hk).1)) h2)

/-- A block of another type than bytes is as it was behind an append to a row of bytes. -/
theorem block_grown {w w1 : World} {g base n : Nat} {v : Value} {xs : List Value} {o o1 : Obj} (h : w.heap[g]? = some o) (hty : ∀ cs mk, o ≠ .cells cs 5 mk) (ho : w.ownsRow base 5 1 v n xs) (hg : (w.alloc o1).grownBy w1 v.ownBlock) : w1.heap[g]? = some o := by
  have hlt : g < w.heap.size := by
    rcases Nat.lt_or_ge g w.heap.size with h' | h'
    · exact h'
    · rw [Array.getElem?_eq_none h'] at h; cases h
  have hne : some g ≠ v.ownBlock := by
    intro e
    rcases ho.2 with ⟨rfl, _⟩ | ⟨g', cap, cur, rfl, _, hh, _⟩
    · simp [Value.ownBlock] at e
    · simp [Value.ownBlock] at e
      subst e
      rw [hh] at h
      exact hty _ _ (Option.some.inj h).symm
  rw [hg.block g (by simp; omega) hne]
  rw [Below.heap_alloc w o1 g hlt]
  exact h

set_option maxHeartbeats 400000 in
theorem Put09g_any (base : Nat) (v : Value) (len : Nat) (zs : List Int) (n : Int) (k : Nat) (g : Nat) (o : Obj) (w : World) (hown : w.ownsRow base 5 1 v len (zs.map (Value.int .u8))) (hbase : base ≤ w.heap.size)
    (hn0 : 0 ≤ n) (hn1 : n ≤ 9223372036854775807) (hk : k ≤ 8) (hlen : len ≤ 140737488355320) (hgo : w.heap[g]? = some o) (hty : ∀ cs mk, o ≠ .cells cs 5 mk) :
    Calls Try.prog 23 #[v, .int .i64 n, .int .i64 k] w (fun e w' => PutPost base w (len + k) (zs ++ leB n k) e w' ∧ w'.heap[g]? = some o) := by
  go_enter Try.func23, Try.ntmps23
  go_wp2
  have HO := Lib.hid hown
  have HG := Lib.hid hgo
  have HTY := Lib.hid hty
  clear hown hgo hty
  go_loopw [0, 7] (fun vv iv wr => ∃ j : Nat, j ≤ k ∧ iv = .int .i64 j ∧ Hid (wr.ownsRow base 5 1 vv (len + j) ((zs ++ leB n j).map (Value.int .u8))) ∧ Hid (Below base w wr) ∧ Hid (wr.heap[g]? = some o)) (fun _ iv _ => k - (intOf iv).toNat)
  case atStart => exact ⟨0, Nat.zero_le _, rfl, Lib.hid (by rw [show leB n 0 = [] from rfl, List.append_nil]; exact HO.out), Lib.hid (Below.refl _ _), HG⟩
  case round =>
    obtain ⟨j, hj, rfl, HR, HB, HGR⟩ := hrel
    by_cases hlt : j < k
    · have HX : Hid (0 ≤ n / 2 ^ (8 * j) % 256 ∧ n / 2 ^ (8 * j) % 256 ≤ 255) := Lib.hid (by omega)
      have HS : Hid (base ≤ wr.heap.size + 1) := Lib.hid (by have := HB.out.size; omega)
      go_wp2_with (at_builtin; refine wp_append_bytes9 rfl (.tmp 13) (.tmp 21) rfl base (len + j) _ _ rfl (HR.out.alloc _) ⟨wr.heap.size, 0, none⟩ 1 1 [n / 2 ^ (8 * j) % 256] rfl (one_bts wr _ HX.out) (by omega) (by simpa using HS.out) ?_; intro v1 w1 hown1 hb1 hg1; have HO1 := Lib.hid hown1; have HB1 := Lib.hid hb1; have HG1 := Lib.hid (block_grown HGR.out HTY.out HR.out hg1); clear hown1 hb1 hg1)
      go_roundw
      case rel =>
        refine ⟨j + 1, by omega, by go_num, Lib.hid ?_, Lib.hid ((HB.out.alloc (by have := HB.out.size; omega) _).trans HB1.out), HG1⟩
        have e := HO1.out
        rw [pow_two_bytes, ← List.map_append, List.append_assoc] at e
        exact e
      case measure => simp [intOf]; omega
    · have hjk : j = k := by omega
      subst hjk
      go_wp2
      go_ret
      exact ⟨⟨_, rfl, HR.out, HB.out⟩, HGR.out⟩

set_option maxHeartbeats 800000 in
theorem PutExtent_any (x : PX) (p q : Nat) (base : Nat) (v : Value) (len : Nat) (zs : List Int) (w : World) (hown : w.ownsRow base 5 1 v len (zs.map (Value.int .u8))) (hbase : base ≤ w.heap.size) (hlen : len ≤ 900) (sx : smallX x) (hp : FI p x.f) (hq : FI q x.c) :
    Calls Try.prog 24 #[v, .agg #[.int .i64 x.a, .complex .f64 p q]] w (PutPost base w (len + 4) (zs ++ (leB x.a 1 ++ leB x.f 2 ++ leB x.c 1))) := by
  obtain ⟨⟨ha0, ha1⟩, hf0, hf1, hc0, hc1⟩ := sx
  have cP := fun W => Parts02_any p q x.f x.c W hp hq ⟨hf0, hf1, hc0, hc1⟩
  obtain ⟨a, f, c⟩ := x
  simp only at *
  have HA : Hid (0 ≤ a ∧ a < 4294967296) := Lib.hid (by omega)
  have HF : Hid (0 ≤ f ∧ f < 4294967296) := Lib.hid (by omega)
  have HC : Hid (0 ≤ c ∧ c < 4294967296) := Lib.hid (by omega)
  have HO := Lib.hid (hown.alloc (.cells #[.int .i64 a, .complex .f64 p q] 40))
  have HB : Hid (Below base w (w.alloc (.cells #[.int .i64 a, .complex .f64 p q] 40))) := Lib.hid ((Below.refl _ _).alloc hbase _)
  have HBS := Lib.hid hbase
  have HCL : Hid (∀ W, Below (w.alloc (.cells #[.int .i64 a, .complex .f64 p q] 40)).heap.size (w.alloc (.cells #[.int .i64 a, .complex .f64 p q] 40)) W → W.cell? ⟨w.heap.size, 0, none⟩ = some (.int .i64 a)) := Lib.hid (fun W hW => cell_later hW (by rw [World.cell?_alloc_new]; rfl))
  clear hown hbase hp hq ha0 ha1 hf0 hf1 hc0 hc1
  generalize runOk f c = t at *
  go_enter Try.func24, Try.ntmps24
  go_wp2_with (first
    | (go_at_call 39; refine (cP _).mono ?_; rintro e w2 ⟨rfl, hb2⟩; have O2 := Lib.hid (owns_later HO.out hb2); have B2 := Lib.hid (HB.out.trans (hb2.mono (Nat.le_trans HBS.out (by simp)))); have q0 := HCL.out w2 hb2; have S2 := Lib.hid (Nat.le_trans (Nat.le_trans HBS.out (by simp)) hb2.size); clear hb2)
    | (go_at_call 23; refine (put09 1 rfl O4.out S4.out HC.out (by decide) (by omega)).mono ?_; rintro e w5 ⟨v5, rfl, h5, b5⟩; have B5 := Lib.hid (B4.out.trans b5); have O5 := Lib.hid h5; clear h5 b5)
    | (go_at_call 23; refine (put09 2 rfl O3.out S3.out HF.out (by decide) (by omega)).mono ?_; rintro e w4 ⟨v4, rfl, h5, b5⟩; have B4 := Lib.hid (B3.out.trans b5); have O4 := Lib.hid h5; have S4 := Lib.hid (Nat.le_trans S3.out b5.size); clear h5 b5)
    | (go_at_call 23; refine (put09 1 rfl O2.out S2.out HA.out (by decide) (by omega)).mono ?_; rintro e w3 ⟨v3, rfl, h5, b5⟩; have B3 := Lib.hid (B2.out.trans b5); have O3 := Lib.hid h5; have S3 := Lib.hid (Nat.le_trans S2.out b5.size); clear h5 b5))
  go_ret
  exact ⟨v5, rfl, by have h := O5.out; rw [List.append_assoc, List.append_assoc] at h; rw [List.append_assoc]; exact h, B5.out⟩

/-- 'append(b, 0)'. -/
theorem owns_zero {w : World} {base j : Nat} {v : Value} {zs : List Int} (h : w.ownsRow base 5 1 v (j + 1) (zs.map (Value.int .u8) ++ [0].map (Value.int .u8))) : w.ownsRow base 5 1 v (j + 1) ((zs ++ [0]).map (Value.int .u8)) := by
  rw [List.map_append]; exact h

def lenOf9 : Value → Nat
  | .slice _ n _ => n
  | _ => 0

theorem owns_len {w : World} {base n : Nat} {v : Value} {xs : List Value} (h : w.ownsRow base 5 1 v n xs) : ∃ ao cap, v = .slice ao n cap := by
  rcases h.2 with ⟨hv, h0⟩ | ⟨g, cap, cur, hv, _⟩
  · exact ⟨none, 0, by rw [hv, h0]⟩
  · exact ⟨_, cap, hv⟩

end Go.Proofs.Ytojfhhmjoledjaa
