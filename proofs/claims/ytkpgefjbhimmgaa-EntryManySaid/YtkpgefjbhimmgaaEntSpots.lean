/-
  Proved here: what the landed entry says of where each name stands (spots): a map, where the entries are sound; else the error.
  The conditions stand at each theorem.
-/
import Derived.Test.YtkpgefjbhimmgaaEntPre
import Derived.Test.YtkpgefjbhimmgaaEntNamed
import Derived.Test.YtkpgefjbhimmgaaEntMem
import Derived.Maps.OwnSet
namespace Go.Proofs.Ytkpgefjbhimmgaa
open Go.RowKit
set_option linter.unusedVariables false
set_option linter.unusedSimpArgs false

/-- How a place reads: its two numbers. -/
def spotElem : Value → Option (DataW Unit × List MemPlace)
  | .agg cs => match cs.toList with
    | [.int .i64 a, .int .i64 b] => some (.agg [.lit (.int .i64 a), .lit (.int .i64 b)], [])
    | _ => none
  | _ => none

theorem spotElem_mk (a b : Int) : spotElem (.agg #[.int .i64 a, .int .i64 b]) = some (.agg [.lit (.int .i64 a), .lit (.int .i64 b)], []) := rfl

theorem spotElem_inv {v : Value} {d : DataW Unit} {ps : List MemPlace} (h : spotElem v = some (d, ps)) : ∃ a b, v = .agg #[.int .i64 a, .int .i64 b] ∧ d = .agg [.lit (.int .i64 a), .lit (.int .i64 b)] := by
  unfold spotElem at h
  split at h
  · rename_i cs
    split at h
    · rename_i a b hc
      simp only [Option.some.injEq, Prod.mk.injEq] at h
      refine ⟨a, b, ?_, h.1.symm⟩
      congr 1
      exact Array.ext' hc
    · cases h
  · cases h

def keyL (s : ByteArray) : Lit := .string s.data.toList
theorem keyL_inj {s t : ByteArray} (h : keyL s = keyL t) : s = t := by
  unfold keyL at h
  simp only [Lit.string.injEq] at h
  cases s with | mk a => cases t with | mk b =>
  congr 1
  exact Array.ext' h

def spotD (p : Nat × Nat) : DataW Unit := .agg [.lit (.int .i64 p.1), .lit (.int .i64 p.2)]

/-- Block b is a map that says of each name where it is. -/
def SpotIs (w : World) (b n : Nat) (f : ByteArray → Option (Nat × Nat)) : Prop :=
  ∃ D : DataW Unit, w.ownsMap Try.prog 9 spotElem b n D ∧ ∀ s, Maps.has D (keyL s) = (f s).isSome ∧ ∀ p, f s = some p → ∀ z, D.atKey (keyL s) z = spotD p

theorem SpotIs.kept {w w' : World} {b n : Nat} {f : ByteArray → Option (Nat × Nat)} (h : SpotIs w b n f) (hb : Below w.heap.size w w') : SpotIs w' b n f := by
  obtain ⟨D, h1, h2⟩ := h
  exact ⟨D, h1.kept (row := none) ⟨hb.os, hb.tape, hb.output, hb.size, fun k hk _ => hb.block k hk⟩ (by simp), h2⟩

theorem SpotIs.drew {w : World} {b n : Nat} {f : ByteArray → Option (Nat × Nat)} (h : SpotIs w b n f) : SpotIs w.drew b n f := h

theorem SpotIs.made (w : World) : SpotIs (w.alloc (.map #[] 0)) w.heap.size 0 (fun _ => none) :=
  ⟨_, World.ownsMap_made _ _ _ _, fun s => ⟨rfl, fun p h => by cases h⟩⟩

theorem SpotIs.congr {w : World} {b n : Nat} {f g : ByteArray → Option (Nat × Nat)} (h : SpotIs w b n f) (e : ∀ s, g s = f s) : SpotIs w b n g := by
  obtain ⟨D, h1, h2⟩ := h
  exact ⟨D, h1, fun s => by rw [e]; exact h2 s⟩

theorem SpotIs.lt {w : World} {b n : Nat} {f : ByteArray → Option (Nat × Nat)} (h : SpotIs w b n f) : b < w.heap.size := h.choose_spec.1.lt

theorem keyed : Maps.Keyed Try.prog 9 := Maps.string_keyed Try.underlying9

theorem spot_zero (w : World) : (zeroValue 58).run Try.prog w = .ok (.agg #[.int .i64 0, .int .i64 0]) w := by kernel_rfl

theorem keyOf_name {s : ByteArray} (hs : s.size ≤ 140737488351232) : keyOf Try.prog 9 (.string s) = some (keyL s) :=
  WideMaps.keyOf_string_mk Try.underlying9 (by unfold maxLen; omega)

section
variable {ops : Array Oper} {rest : List Oper} {o : Oper} {a : Act} {w : World} {Q : Exit → Act → World → Prop}

/-- Where is a name? -/
theorem wp_spot_look (hgd : o.guard = none) (m x : Operand) (hop : o.op = Op.lookup 48 m x true) (b n : Nat) (f : ByteArray → Option (Nat × Nat)) (hm : a.eval m = .map (some b)) (h : SpotIs w b n f)
    (s : ByteArray) (hx : a.eval x = .string s) (hs : s.size ≤ 140737488351232) (t : Bool) (ht : (f s).isSome = t)
    (hK : ∀ i k : Int, (∀ p, f s = some p → i = p.1 ∧ k = p.2) → wpList Try.prog ops Q rest (a.put o.dst (.tuple #[.agg #[.int .i64 i, .int .i64 k], .bool t])) w) : wpList Try.prog ops Q (o :: rest) a w := by
  obtain ⟨D, h1, h2⟩ := h
  refine wpList_lookup_own_ok w hgd m x _ hop _ _ keyed Try.underlying48 spotElem (spot_zero w) _ _ (spotElem_mk 0 0) b n D hm h1 (.string s) (keyL s) hx (keyOf_name hs) (fun v ps hv => ?_)
  obtain ⟨i, k, rfl, hd⟩ := spotElem_inv hv
  rw [(h2 s).1, ht]
  refine hK i k (fun p hp => ?_)
  have := (h2 s).2 p hp (.agg [.lit (.int .i64 0), .lit (.int .i64 0)])
  rw [this] at hd
  unfold spotD at hd
  simp only [DataW.agg.injEq, List.cons.injEq, DataW.lit.injEq, Lit.int.injEq, true_and, and_true] at hd
  exact ⟨hd.1.symm, hd.2.symm⟩

/-- One more name. -/
theorem wp_spot_put (hgd : o.guard = none) (m x v : Operand) (hop : o.op = Op.mapUpdate 48 m x v) (base b n : Nat) (f : ByteArray → Option (Nat × Nat)) (hm : a.eval m = .map (some b)) (h : SpotIs w b n f)
    (s : ByteArray) (hx : a.eval x = .string s) (hs : s.size ≤ 140737488351232) (i k : Nat) (hv : a.eval v = .agg #[.int .i64 (i : Int), .int .i64 (k : Int)]) (hn : n ≤ 100000) (hb : base ≤ b)
    (hK : ∀ w', SpotIs w' b (n + 1) (fun t => if s = t then some (i, k) else f t) → Below base w w' → wpList Try.prog ops Q rest (a.put o.dst undef) w') : wpList Try.prog ops Q (o :: rest) a w := by
  have hlt := h.lt
  obtain ⟨D, h1, h2⟩ := h
  refine wpList_mapUpdate_own w hgd m x v _ hop _ _ keyed Try.underlying48 spotElem b n D hm h1 (by unfold maxLen; omega) (.string s) _ (keyL s) hx hv (keyOf_name hs) (spotD (i, k)) [] (spotElem_mk i k) (fun w' h3 h4 => ?_)
  refine hK w' ⟨_, h3, fun t => ?_⟩ ((Below.refl base w).grown h4 (by omega) (fun j hj => by cases hj; exact hb))
  by_cases e : s = t
  · subst e
    show Maps.has _ _ = (if s = s then some (i, k) else f s).isSome ∧ ∀ p, (if s = s then some (i, k) else f s) = some p → _
    rw [if_pos rfl, Maps.has_put_same h1.isMap (show WideAt.IsKeyLit (keyL s) from trivial)]
    refine ⟨rfl, fun p hp z => ?_⟩
    cases hp
    exact Maps.atKey_put_same h1.isMap (show WideAt.IsKeyLit (keyL s) from trivial) _ _
  · have hne : keyL t ≠ keyL s := fun he => e (keyL_inj he).symm
    show Maps.has _ _ = (if s = t then some (i, k) else f t).isSome ∧ ∀ p, (if s = t then some (i, k) else f t) = some p → _
    rw [if_neg e, Maps.has_put_other hne]
    refine ⟨(h2 t).1, fun p hp z => ?_⟩
    rw [Maps.atKey_put_other hne]
    exact (h2 t).2 p hp z
end

/-- What stands behind i blocks, and k entries of the next one. -/
def SpotsAt (base : Nat) (w0 : World) (B : Nat) (bs : List (List PEnt)) (i k : Nat) (w : World) : Prop :=
  soundE (pre bs i k) = true ∧ SpotIs w B (3 * i + k) (findIn (pre bs i k)) ∧ Below base w0 w ∧ base ≤ B

theorem blk_at {w : World} {ao : Option Addr} {len cap i : Nat} {bs : List (List PEnt)} (h : BlkArg w ao len cap bs) (hi : i < len) :
    ∃ b off es ad l c, ao = some ⟨b, off, none⟩ ∧ bs[i]? = some es ∧ w.cell? ⟨b, off + i, none⟩ = some (.slice ad l c) ∧ EntArg w ad l c es := by
  obtain ⟨⟨h1, h2, h3⟩, _, _⟩ := h
  obtain ⟨b, off, rfl, hc⟩ := h3.resolve_left (by omega)
  have he : bs[i]? = some bs[i] := List.getElem?_eq_getElem (by omega)
  obtain ⟨ad, l, c, c1, c2⟩ := hc i _ he
  exact ⟨b, off, _, ad, l, c, rfl, he, c1, c2⟩

theorem ent_at {w : World} {ao : Option Addr} {len cap i : Nat} {es : List PEnt} (h : EntArg w ao len cap es) (hi : i < len) :
    ∃ b off x, ao = some ⟨b, off, none⟩ ∧ es[i]? = some x ∧ w.cell? ⟨b, off + i * 2, none⟩ = some (.int .i64 x.node) ∧ (-9223372036854775808 ≤ x.node ∧ x.node ≤ 9223372036854775807) ∧ w.cell? ⟨b, off + i * 2 + 1, none⟩ = some (.string x.name) ∧ x.name.size ≤ 140737488351232 := by
  obtain ⟨⟨h1, h2, h3⟩, _, _⟩ := h
  obtain ⟨b, off, rfl, hc⟩ := h3.resolve_left (by omega)
  have he : es[i]? = some es[i] := List.getElem?_eq_getElem (by omega)
  obtain ⟨c1, c2, c3, c4⟩ := hc i _ he
  rw [Nat.mul_comm] at c1 c3
  exact ⟨b, off, _, rfl, he, c1, c2, c3, c4⟩

/-- What spots answers. -/
def SpotsDone (w0 : World) (bs : List (List PEnt)) (e : Ending) (w : World) : Prop :=
  if soundE bs = true then ∃ B n, e = .returned (.tuple #[.map (some B), .int .i64 0]) ∧ SpotIs w B n (findIn bs) ∧ Below w0.heap.size w0 w
  else e = .returned (.tuple #[.map none, .int .i64 2]) ∧ Below w0.heap.size w0 w

set_option maxHeartbeats 1600000 in
theorem spots_any (ao : Option Addr) (len cap : Nat) (bs : List (List PEnt)) (w : World) (hA : BlkArg w ao len cap bs) (h96 : len ≤ 96) : Calls Try.prog 26 #[.slice ao len cap] w (SpotsDone w bs) := by
  have HA := Lib.hid hA
  have hm : (Instr.makeMap 48 none).run Try.prog w = .ok (.map (some w.heap.size)) (w.alloc (.map #[] 0)) := run_makeMap _ _
  have HL : Hid (bs.length = len) := Lib.hid hA.1.1
  have hi96 : (len : Int) ≤ 96 := by omega
  clear hA
  go_enter Try.func26, Try.ntmps26
  go_wp2
  go_loopw [17] (fun iv wr => ∃ i : Nat, iv = .int .i64 (i : Int) ∧ i ≤ len ∧ Hid (SpotsAt w.heap.size w w.heap.size bs i 0 wr)) (fun iv _ => len - (intOf iv).toNat)
  case atStart => exact ⟨0, rfl, Nat.zero_le _, Lib.hid ⟨sound_begin bs, (SpotIs.made w).congr (fun n => pre_zero bs n), (Below.refl _ _).alloc (Nat.le_refl _) _, Nat.le_refl _⟩⟩
  case round =>
    obtain ⟨wo, hwo⟩ : ∃ wo : World, wo = wr := ⟨_, rfl⟩
    subst hwo
    obtain ⟨i, rfl, hi, HS⟩ := hrel
    by_cases hlt : i < len
    · obtain ⟨b, off, es, ad, l, c, hao, hes, hc, hE⟩ := blk_at HA.out hlt
      have hc := cell_later HS.out.2.2.1 hc
      have HE := Lib.hid hE
      have HI := Lib.hid hes
      have hes2 := (getD_of hes).1
      have i1 : (i : Int) < (len : Int) := by omega
      have hl : es.length = l := hE.1.1
      have HLL := Lib.hid hl
      by_cases h3 : 3 < l
      · have HF : Hid (soundE bs = false) := Lib.hid (sound_long (i := i) (by rw [HL.out]; exact hlt) (by rw [hes2, hl]; exact h3))
        have i3 : (3 : Int) < (l : Int) := by omega
        subst hao
        clear hes hE hes2 hl
        go_wp2
        go_ret2
        unfold SpotsDone
        rw [HF.out, if_neg (by decide)]
        exact ⟨rfl, HS.out.2.2.1⟩
      · have i3 : ¬ (3 : Int) < (l : Int) := by omega
        subst hao
        clear hes hE hes2 hl
        go_wp2
        go_loopw [27] (fun kv wr => ∃ k : Nat, kv = .int .i64 (k : Int) ∧ k ≤ l ∧ Hid (SpotsAt w.heap.size w w.heap.size bs i k wr)) (fun kv _ => l - (intOf kv).toNat)
        case atStart => exact ⟨0, rfl, Nat.zero_le _, HS⟩
        case round =>
          obtain ⟨k, rfl, hk, HT⟩ := hrel
          by_cases hkl : k < l
          · obtain ⟨eb, eo, x, hao2, hx, d1, d2, d3, d4⟩ := ent_at (HE.out.later HT.out.2.2.1) hkl
            subst hao2
            have HX := Lib.hid hx
            have HG := Lib.hid (sound_step (k := k) HI.out hx (by rw [HLL.out]; omega) HT.out.1)
            obtain ⟨nd, nm⟩ := x
            dsimp only at d1 d2 d3 d4
            have cN := fun W => Named_any nm W d4
            have cO := fun W => soundNode_any nd W
            have HR : Hid ((⟨nd, nm⟩ : PEnt).right = (nodeOk nd && named nm)) := Lib.hid rfl
            have HBad : Hid ((findIn (pre bs i k) nm).isSome = true ∨ named nm = false ∨ nodeOk nd = false → soundE bs = false) := Lib.hid (fun hbad => by
              refine sound_pre_false (i := i) (k := k + 1) (by rw [HL.out]; exact hlt) ?_
              rw [← Bool.not_eq_true]
              intro hs
              obtain ⟨g1, g2⟩ := HG.out.1 hs
              rw [HR.out, Bool.and_eq_true] at g1
              dsimp only at g2
              rw [g1.1, g1.2, g2] at hbad
              simp at hbad)
            have HGood : Hid ((findIn (pre bs i k) nm).isSome = false → named nm = true → nodeOk nd = true → soundE (pre bs i (k + 1)) = true ∧ ∀ n, findIn (pre bs i (k + 1)) n = if nm = n then some (i, k) else findIn (pre bs i k) n) := Lib.hid (fun g1 g2 g3 => by
              have g4 : findIn (pre bs i k) nm = none := by simpa using g1
              exact ⟨HG.out.2 ⟨by rw [HR.out, g2, g3]; rfl, g4⟩, find_step HI.out HX.out g4⟩)
            clear hx d2
            by_cases hT : (findIn (pre bs i k) nm).isSome = true
            · have HTT := Lib.hid hT
              have HF := Lib.hid (HBad.out (Or.inl hT))
              clear hT cN cO
              go_wp2_with (first | (at_lookup; refine wp_spot_look rfl _ _ rfl _ _ (findIn (pre bs i k)) rfl (HT.out.2.1.kept ((Below.refl _ _).alloc (Nat.le_refl _) _)) nm rfl d4 true HTT.out ?_; intro si sk hsk; clear hsk))
              go_ret2
              unfold SpotsDone
              rw [HF.out, if_neg (by decide)]
              exact ⟨rfl, HT.out.2.2.1.trans ((((Below.refl _ _).alloc (Nat.le_refl _) _).alloc (by simp) _).mono HT.out.2.2.1.size)⟩
            · have hT : (findIn (pre bs i k) nm).isSome = false := by simpa using hT
              have HTT := Lib.hid hT
              by_cases hN : named nm = true
              · by_cases hO : nodeOk nd = true
                · have HGD := Lib.hid (HGood.out hT hN hO)
                  rw [hN] at cN
                  rw [hO] at cO
                  clear hT hN hO
                  go_wp2_with (first | (at_lookup; refine wp_spot_look rfl _ _ rfl _ _ (findIn (pre bs i k)) rfl (HT.out.2.1.kept ((Below.refl _ _).alloc (Nat.le_refl _) _)) nm rfl d4 false HTT.out ?_; intro si sk hsk; clear hsk) | (at_mapUpdate; refine wp_spot_put rfl _ _ _ rfl w.heap.size _ _ (findIn (pre bs i k)) rfl (HT.out.2.1.kept (((Below.refl _ _).alloc (Nat.le_refl _) _).alloc (by simp) _)) nm rfl d4 i k rfl (by omega) (Nat.le_refl _) ?_; intro w5 h5 b5; have H5 := Lib.hid h5; have B5 := Lib.hid b5; clear h5 b5) | (go_at_call 18; refine (cN _).mono ?_; rintro e w' ⟨rfl, rfl⟩) | (go_at_call 34; refine (cO _).mono ?_; rintro e w' ⟨rfl, rfl⟩))
                  go_roundw
                  case rel => exact ⟨k + 1, by go_num, by omega, Lib.hid ⟨HGD.out.1, H5.out.congr HGD.out.2, (HT.out.2.2.1.trans ((((Below.refl _ _).alloc (Nat.le_refl _) _).alloc (by simp) _).mono HT.out.2.2.1.size)).trans B5.out, Nat.le_refl _⟩⟩
                  case measure => simp [intOf]; omega
                · have hO : nodeOk nd = false := by simpa using hO
                  have HF := Lib.hid (HBad.out (Or.inr (Or.inr hO)))
                  rw [hN] at cN
                  rw [hO] at cO
                  clear hT hN hO
                  go_wp2_with (first | (at_lookup; refine wp_spot_look rfl _ _ rfl _ _ (findIn (pre bs i k)) rfl (HT.out.2.1.kept ((Below.refl _ _).alloc (Nat.le_refl _) _)) nm rfl d4 false HTT.out ?_; intro si sk hsk; clear hsk) | (go_at_call 18; refine (cN _).mono ?_; rintro e w' ⟨rfl, rfl⟩) | (go_at_call 34; refine (cO _).mono ?_; rintro e w' ⟨rfl, rfl⟩))
                  go_ret2
                  unfold SpotsDone
                  rw [HF.out, if_neg (by decide)]
                  exact ⟨rfl, HT.out.2.2.1.trans ((((Below.refl _ _).alloc (Nat.le_refl _) _).alloc (by simp) _).mono HT.out.2.2.1.size)⟩
              · have hN : named nm = false := by simpa using hN
                have HF := Lib.hid (HBad.out (Or.inr (Or.inl hN)))
                rw [hN] at cN
                clear hT hN cO
                go_wp2_with (first | (at_lookup; refine wp_spot_look rfl _ _ rfl _ _ (findIn (pre bs i k)) rfl (HT.out.2.1.kept ((Below.refl _ _).alloc (Nat.le_refl _) _)) nm rfl d4 false HTT.out ?_; intro si sk hsk; clear hsk) | (go_at_call 18; refine (cN _).mono ?_; rintro e w' ⟨rfl, rfl⟩))
                go_ret2
                unfold SpotsDone
                rw [HF.out, if_neg (by decide)]
                exact ⟨rfl, HT.out.2.2.1.trans ((((Below.refl _ _).alloc (Nat.le_refl _) _).alloc (by simp) _).mono HT.out.2.2.1.size)⟩
          · obtain rfl : k = l := by omega
            have hes2 := getD_of HI.out
            have HNX : Hid (SpotsAt w.heap.size w w.heap.size bs (i + 1) 0 wr) := Lib.hid (by
              obtain ⟨t1, t2, t3, t4⟩ := HT.out
              obtain ⟨n1, n2⟩ := pre_next (bs := bs) (i := i) (by rw [HL.out]; exact hlt)
              rw [hes2.1, HLL.out] at n1 n2
              refine ⟨by rw [n2]; exact t1, ?_, t3, t4⟩
              obtain ⟨D, o1, o2⟩ := t2.congr n1
              exact ⟨D, o1.mono (by omega), o2⟩)
            clear hes2
            go_wp2
            go_roundw
            case rel => exact ⟨i + 1, by go_num, by omega, HNX⟩
            case measure => simp [intOf]; omega
    · obtain rfl : i = len := by omega
      have HD : Hid (SpotsDone w bs (.returned (.tuple #[.map (some w.heap.size), .int .i64 0])) wo) := Lib.hid (by
        obtain ⟨t1, t2, t3, t4⟩ := HS.out
        obtain ⟨n1, n2⟩ := pre_end HL.out
        unfold SpotsDone
        rw [← n2, if_pos t1]
        exact ⟨_, _, rfl, t2.congr (fun n => (n1 n).symm), t3⟩)
      go_wp2
      go_ret2
      exact HD.out

theorem spots_long (ao : Option Addr) (len cap : Nat) (w : World) (h96 : 96 < len) (hl : len ≤ 140737488351232) : Calls Try.prog 26 #[.slice ao len cap] w fun e w' => e = .returned (.tuple #[.map none, .int .i64 2]) ∧ w = w' := by
  have hi96 : (96 : Int) < (len : Int) := by omega
  go_enter Try.func26, Try.ntmps26
  go_wp2
  go_ret2
  exact ⟨rfl, rfl⟩

end Go.Proofs.Ytkpgefjbhimmgaa
