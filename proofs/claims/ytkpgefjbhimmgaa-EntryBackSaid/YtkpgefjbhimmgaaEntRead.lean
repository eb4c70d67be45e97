/-
  Proved here: what the landed entry reads of any bytes (read).
  The conditions stand at each theorem.
-/
import Derived.Test.YtkpgefjbhimmgaaEntWrite
import Derived.Test.YtkpgefjbhimmgaaVals
import Derived.Deep.RegionLaw
namespace Go.Proofs.Ytkpgefjbhimmgaa
open Go.RowKit
set_option linter.unusedVariables false
set_option linter.unusedSimpArgs false

def zeros64n : List Int := List.replicate 64 0
/-- A text laid over 64 zeros, as much of it as fits. -/
def pad64n (zs : List Int) : List Int := lay zeros64n 0 (zs.take 64)
theorem pad64n_length (zs : List Int) : (pad64n zs).length = 64 := by unfold pad64n; rw [lay_length]; rfl

theorem bts_cut9 {w : World} {ao : Option Addr} {m k : Nat} {zs : List Int} (h : Bts w ao m zs) (hk : k ≤ m) : Bts w ao k (zs.take k) := by
  obtain ⟨h1, h2, h3, h4⟩ := h
  refine ⟨by rw [List.length_take]; omega, by omega, fun z hz => h3 z (List.mem_of_mem_take hz), ?_⟩
  rcases h4 with h4 | ⟨b, off, rfl, hc⟩
  · exact Or.inl (by omega)
  · exact Or.inr ⟨b, off, rfl, fun j hj => by rw [take_getD _ _ _ hj]; exact hc j (by omega)⟩

/-- 'copy' of bytes into 64 bytes of the call's own. -/
theorem own_copy_min9 {base g : Nat} {w0 w : World} (hO : Own base w0 g zeros64n w) (ao : Option Addr) (m c : Nat) (zs : List Int) (hB : Bts w ao m zs) (ty : TypeId) :
    ∃ v' w', (Builtin.copy_ #[23, 23] ty #[.slice (some ⟨g, 0, none⟩) 64 64, .slice ao m c]).run Try.prog w = .ok v' w' ∧ Own base w0 g (pad64n zs) w' := by
  have hl0 : zs.length = m := hB.1
  cases ao with
  | none =>
    have hz : zs = [] ∧ m = 0 := by
      rcases hB.2.2.2 with h0 | ⟨b, o, he, _⟩
      · exact ⟨List.length_eq_zero_iff.1 (by rw [hB.1, h0]), h0⟩
      · cases he
    obtain ⟨rfl, rfl⟩ := hz
    exact ⟨_, _, run_copy_none (P := Try.prog) w 23 23 ty 5 _ none 64 64 0 c Try.underlying23 size5 (by simp), hO⟩
  | some ad =>
    have hBk := bts_cut9 (k := min m 64) hB (Nat.min_le_left _ _)
    have htk : zs.take (min m 64) = zs.take 64 := by
      by_cases h : m ≤ 64
      · rw [Nat.min_eq_left h, List.take_of_length_le (by omega), List.take_of_length_le (by omega)]
      · rw [Nat.min_eq_right (by omega)]
    rw [htk] at hBk
    have hl : ((zs.take 64).map (Value.int .u8)).length = min m 64 := by rw [List.length_map, hBk.1]
    have hr := run_copy_cells (P := Try.prog) w 23 23 ty 5 g 0 64 64 ad m c ((zs.take 64).map (Value.int .u8)) Try.underlying23 size5 hl (bts_news hBk rfl)
      (fun j hj => by rw [Nat.zero_add]; rw [hO.2.1 j (by show j < 64; omega)]; rfl) (fun j _ => hO.2.2.1 _) (one_cells _)
    exact ⟨_, _, hr, hO.fill (zs.take 64) zeros64n 0 w (by show 0 + _ ≤ 64; rw [List.length_take]; omega) hBk.2.2.1⟩

theorem pad64n_bytes {zs : List Int} (hz : ∀ z ∈ zs, 0 ≤ z ∧ z ≤ 255) : ∀ z ∈ pad64n zs, 0 ≤ z ∧ z ≤ 255 := by
  intro z h
  unfold pad64n at h
  rw [lay_eq _ _ _ (by rw [List.length_take]; show 0 + _ ≤ 64; omega)] at h
  rcases List.mem_append.1 h with h | h
  · rcases List.mem_append.1 h with h | h
    · simp at h
    · exact hz z (List.mem_of_mem_take h)
  · rw [List.eq_of_mem_replicate (List.mem_of_mem_drop h)]; decide

theorem pad64n_same {zs : List Int} (h : zs.length = 64) : pad64n zs = zs := by
  unfold pad64n
  rw [List.take_of_length_le (by omega), lay_eq _ _ _ (by show 0 + _ ≤ 64; omega), h]
  simp [zeros64n]

/-- What read takes for the i-th entry. -/
def rdAt (P : List Int) (i : Nat) : PEnt := ⟨P.getD (2 + 19 * i) 0, str ((P.drop (4 + 19 * i)).take (min (P.getD (3 + 19 * i) 0) 17).toNat)⟩
def rdE (zs : List Int) : List PEnt := (List.range (min ((pad64n zs).getD 0 0) 3).toNat).map (rdAt (pad64n zs))

/-- What the program says of an element's type: its zero value; so many cells; so many bytes. -/
def ElemK (t e : TypeId) (z : Value) (sz nb : Nat) : Prop :=
  Try.prog.underlying t = some (.slice e) ∧ (Try.prog.info? e).map (fun i => (i.zero, i.size, i.bytes)) = some (some z, sz, nb) ∧ z.cells.size = sz ∧ 0 < sz ∧ nb ≤ 64

theorem elemEntry : ElemK 22 40 (.agg #[.int .i64 0, .string ByteArray.empty]) 2 24 := ⟨Try.underlying22, by kernel_rfl, rfl, by decide, by decide⟩

section
variable {ops : Array Oper} {rest : List Oper} {o : Oper} {a : Act} {w : World} {Q : Exit → Act → World → Prop}

/-- 'append(dst, x..)' of elements of some cells, told with what other blocks keep. -/
theorem wp_append_ks {t e : TypeId} {z : Value} {sz nb : Nat} (hE : ElemK t e z sz nb) (hgd : o.guard = none) (s y : Operand) (ho : o.op = .call { callee := .builtin .append, args := #[s, y], argTypes := #[t, t] })
    (base n : Nat) (v : Value) (xs : List Value) (hs : a.eval s = v) (hown : w.ownsRow base e sz v n xs) (ad : Addr) (m c : Nat) (news : List Value) (hl : news.length = m * sz) (hy : a.eval y = .slice (some ad) m c)
    (hx : ∀ j u, news[j]? = some u → w.cell? (ad.add j) = some u) (h1 : ∀ u ∈ news, u.oneCell' = true) (hb : n + m ≤ 100000) (hbase : base ≤ w.heap.size)
    (h : ∀ v' w', w'.ownsRow base e sz v' (n + m) (xs ++ news) → w.grownBy w' v.ownBlock → Below base w w' → wpList Try.prog ops Q rest (a.put o.dst v') w') : wpList Try.prog ops Q (o :: rest) a w := by
  obtain ⟨hu, hi, hz, hp, hnb⟩ := hE
  obtain ⟨i0, hi0, hz0, hz1, hz2⟩ := info_parts hi
  obtain ⟨v', w', hrun, h2, h3, _⟩ := run_append_own (P := Try.prog) w base t o.type e i0 z sz nb hu hi0 hz0 hz1 hz2 hz hp v n xs hown ad m c news hl hx h1
      (by unfold maxLen; omega) (by have : (n + m) * nb ≤ 100001 * 64 := Nat.mul_le_mul (by omega) hnb
                                    omega) hbase
  refine wpList_plain hgd fun K hK => ?_
  unfold Oper.wp
  simp [execOp, ho, resolve, invoke, builtin, hs, hy, hrun, Result.andThen]
  exact hK _ _ (h v' w' h2 h3 ((Below.refl base w).grown h3 hbase (fun k hk => (hown.lt k hk).1)))
end

section
variable {ops : Array Oper} {o : Oper} {a : Act} {w : World} {K : Act → World → Prop} {Q : Exit → Act → World → Prop} {E : Prop}

/-- The same, as one step of a statement that draws its order. -/
theorem step_append_ks {t e : TypeId} {z : Value} {sz nb : Nat} (hE : ElemK t e z sz nb) (hgd : o.guard = none) (s y : Operand) (ho : o.op = Op.call { callee := Callee.builtin Builtin.append, args := #[s, y], argTypes := #[t, t] })
    (base n : Nat) (v : Value) (xs : List Value) (hs : a.eval s = v) (hown : w.ownsRow base e sz v n xs) (ad : Addr) (m c : Nat) (news : List Value) (hl : news.length = m * sz) (hy : a.eval y = .slice (some ad) m c)
    (hx : ∀ j u, news[j]? = some u → w.cell? (ad.add j) = some u) (h1 : ∀ u ∈ news, u.oneCell' = true) (hb : n + m ≤ 100000) (hbase : base ≤ w.heap.size)
    (hK : ∀ v' w', w'.ownsRow base e sz v' (n + m) (xs ++ news) → w.grownBy w' v.ownBlock → Below base w w' → K (a.put o.dst v') w') :
    if Region.wanted o (yielded ops a.tmps) = true then Oper.wp Try.prog o a w K Q else E := by
  have hw : Region.wanted o (yielded ops a.tmps) = true := by simp [Region.wanted, hgd]
  rw [if_pos hw]
  obtain ⟨hu, hi, hz, hp, hnb⟩ := hE
  obtain ⟨i0, hi0, hz0, hz1, hz2⟩ := info_parts hi
  obtain ⟨v', w', hrun, h2, h3, _⟩ := run_append_own (P := Try.prog) w base t o.type e i0 z sz nb hu hi0 hz0 hz1 hz2 hz hp v n xs hown ad m c news hl hx h1
      (by unfold maxLen; omega) (by have : (n + m) * nb ≤ 100001 * 64 := Nat.mul_le_mul (by omega) hnb
                                    omega) hbase
  unfold Oper.wp
  simp [execOp, ho, resolve, invoke, builtin, hs, hy, hrun, Result.andThen]
  exact hK _ _ h2 h3 ((Below.refl base w).grown h3 hbase (fun k hk => (hown.lt k hk).1))
end

/-- The cells of a list that was made. -/
theorem news_made (w : World) (L : List Value) (T : TypeId) : ∀ (j : Nat) (u : Value), L[j]? = some u → (w.alloc (.cells L.toArray T)).cell? ((⟨w.heap.size, 0, none⟩ : Addr).add j) = some u := by
  intro j u hj
  rw [Go.WideShapes.add_plain, Nat.zero_add, World.cell?_alloc_new]
  simpa using hj

theorem owns_drew {w : World} {base n sz : Nat} {e : TypeId} {v : Value} {xs : List Value} (h : w.ownsRow base e sz v n xs) : w.drew.ownsRow base e sz v n xs := h

theorem owns_shape {w : World} {base n sz : Nat} {e : TypeId} {v : Value} {xs : List Value} (h : w.ownsRow base e sz v n xs) : ∃ ao c, v = .slice ao n c := by
  rcases h.2 with ⟨hv, h0⟩ | ⟨g', cap, cur, hv, _⟩
  · subst h0; exact ⟨none, 0, hv⟩
  · exact ⟨_, _, hv⟩

/-- The cells of entries, two each. -/
def cellsE (es : List PEnt) : List Value := es.flatMap fun x => [.int .i64 x.node, .string x.name]
def smallE (es : List PEnt) : Prop := ∀ x ∈ es, (-9223372036854775808 ≤ x.node ∧ x.node ≤ 9223372036854775807) ∧ x.name.size ≤ 140737488351232
/-- Entries of the call's own. -/
def OwnE (base : Nat) (w : World) (v : Value) (es : List PEnt) : Prop := w.ownsRow base 40 2 v es.length (cellsE es) ∧ smallE es

theorem cellsE_at : ∀ {es : List PEnt} {j : Nat} {x : PEnt}, es[j]? = some x → (cellsE es)[2 * j]? = some (.int .i64 x.node) ∧ (cellsE es)[2 * j + 1]? = some (.string x.name)
  | [], j, x, h => by simp at h
  | y :: es, 0, x, h => by
    simp only [List.getElem?_cons_zero, Option.some.injEq] at h
    subst h
    exact ⟨rfl, rfl⟩
  | y :: es, j + 1, x, h => by
    simp only [List.getElem?_cons_succ] at h
    have ih := cellsE_at h
    exact ⟨ih.1, ih.2⟩

theorem cellsE_snoc (es : List PEnt) (x : PEnt) : cellsE (es ++ [x]) = cellsE es ++ [.int .i64 x.node, .string x.name] := by
  unfold cellsE
  simp

theorem OwnE.val {base : Nat} {w : World} {v : Value} {es : List PEnt} (h : OwnE base w v es) (hl : es.length ≤ 100000) : EntVal w v es := by
  obtain ⟨ho, hs⟩ := h
  rcases ho.2 with ⟨hv, h0⟩ | ⟨g, cap, cur, hv, hg, _, hc, _⟩
  · have : es = [] := List.length_eq_zero_iff.1 h0
    subst this
    rw [hv]
    exact EntVal.nil w
  · refine ⟨_, cap, hv, ⟨rfl, by omega, Or.inr ⟨g, 0, rfl, fun j x hj => ?_⟩⟩, (fun h => by cases h), hc⟩
    obtain ⟨c1, c2⟩ := cellsE_at hj
    rw [hv] at ho
    have d1 := ho.cells rfl _ _ c1
    have d2 := ho.cells rfl _ _ c2
    rw [Go.WideShapes.add_plain] at d1 d2
    have hm := hs x (List.mem_of_getElem? hj)
    exact ⟨d1, hm.1, by rw [Nat.add_assoc]; exact d2, hm.2⟩

theorem own_part {base g off k : Nat} {w0 wr : World} {L : List Int} (h : Own base w0 g L wr) (hk : off + k ≤ L.length) (hl : L.length ≤ 100000) : Bts wr (some ⟨g, off, none⟩) k ((L.drop off).take k) := by
  refine ⟨by rw [List.length_take, List.length_drop]; omega, by omega, fun z hz => h.1 z (List.mem_of_mem_drop (List.mem_of_mem_take hz)), Or.inr ⟨g, off, rfl, fun j hj => ?_⟩⟩
  rw [h.2.1 (off + j) (by omega), take_getD _ _ _ hj]
  simp [List.getD, List.getElem?_drop]

theorem own_under {base g : Nat} {w0 wr w1 : World} {L : List Int} (h : Own base w0 g L wr) (hb : Below (g + 1) wr w1) : Own base w0 g L w1 := by
  obtain ⟨h1, h2, h3, h4, h5⟩ := h
  have hc : ∀ p : Addr, p.block = g → w1.cell? p = wr.cell? p := fun p hp => by
    unfold World.cell?
    rw [hb.block p.block (by omega)]
  exact ⟨h1, fun j hj => by rw [hc _ rfl]; exact h2 j hj, fun j => by rw [World.frozen?_of_block (w := wr) (a := ⟨g, j, none⟩) (hb.block g (by omega))]; exact h3 j, h4, h5.trans (hb.mono (by omega))⟩

theorem ownE_snoc {base : Nat} {w : World} {v : Value} {es : List PEnt} {x : PEnt} (h : w.ownsRow base 40 2 v (es.length + 1) (cellsE es ++ [.int .i64 x.node, .string x.name])) (hs : smallE es) (hx : (-9223372036854775808 ≤ x.node ∧ x.node ≤ 9223372036854775807) ∧ x.name.size ≤ 140737488351232) : OwnE base w v (es ++ [x]) := by
  refine ⟨by rw [cellsE_snoc, List.length_append]; exact h, fun y hy => ?_⟩
  rcases List.mem_append.1 hy with hy | hy
  · exact hs y hy
  · rw [List.mem_singleton.1 hy]; exact hx

/-- What read answers. -/
def ReadDone (w0 : World) (zs : List Int) (e : Ending) (w : World) : Prop := ∃ v, e = .returned v ∧ EntVal w v (rdE zs) ∧ Below w0.heap.size w0 w

set_option maxHeartbeats 1600000 in
theorem read_any (ao : Option Addr) (len cap : Nat) (zs : List Int) (w : World) (hA : Arg w ao len cap zs) : Calls Try.prog 30 #[.slice ao len cap] w (ReadDone w zs) := by
  have hmk := run_make_bytes w 64 (by decide)
  rw [show ((64 : Nat) : Int) = 64 from rfl] at hmk
  have HO := Lib.hid (made_own w 64)
  have HB := Lib.hid (hA.1.later HO.out.2.2.2.2)
  have HRD : Hid (rdE zs = (List.range (min ((pad64n zs).getD 0 0) 3).toNat).map (rdAt (pad64n zs))) := Lib.hid rfl
  have HP64 := Lib.hid (pad64n_length zs)
  have HPB := Lib.hid (pad64n_bytes hA.1.2.2.1)
  obtain ⟨L, HLL⟩ : ∃ L, Hid (pad64n zs = L) := ⟨_, Lib.hid rfl⟩
  rw [HLL.out] at HRD HP64 HPB
  obtain ⟨R, HR0⟩ : ∃ R, Hid (rdE zs = R) := ⟨_, Lib.hid rfl⟩
  rw [HR0.out] at HRD
  clear hA
  generalize hw1 : w.alloc (.cells (madeCells #[.int .u8 0] 64) 5) = w1 at *
  have HW1 := Lib.hid hw1
  clear hw1
  go_enter Try.func30, Try.ntmps30
  have HQ : Hid (∀ (k : Nat) (w2 : World), k < 64 → Own w.heap.size w w.heap.size L w2 → ∃ n0 : Int, w2.cell? ⟨w.heap.size, k, none⟩ = some (.int .u8 n0) ∧ (0 ≤ n0 ∧ n0 ≤ 255) ∧ IntKind.i64.wrap n0 = n0 ∧ Hid (L.getD k 0 = n0)) := Lib.hid (fun k w2 hk hO2 => by
    have q0 := hO2.2.1 k (by rw [HP64.out]; exact hk)
    have b0 := HPB.out _ (getD_mem (l := L) (k := k) (by rw [HP64.out]; exact hk))
    exact ⟨_, q0, b0, by rw [IntKind.wrap_i64]; omega, Lib.hid rfl⟩)
  have HM : Hid (∀ (n c : Int), 0 ≤ n → 0 ≤ c → ∃ m : Nat, (∀ ts t w, (Builtin.min_ ts t #[.int .i64 n, .int .i64 c]).run Try.prog w = .ok (.int .i64 (m : Int)) w) ∧ (m : Int) ≤ c ∧ Hid ((m : Int) = min n c)) := Lib.hid (fun n c h0 h1 => by
    refine ⟨(if c < n then c else n).toNat, fun ts t w => ?_, ?_, Lib.hid ?_⟩
    · rw [run_min_int2]
      congr 2
      split <;> omega
    · split <;> omega
    · split <;> omega)
  go_wp2_with (refine wp_copy rfl (.tmp 10) (.tmp 11) 23 23 rfl _ _ rfl rfl _ (own_copy_min9 HO.out ao len cap zs HB.out _) ?_; rintro v2 w2 hO2; rw [HLL.out] at hO2; obtain ⟨n0, q0, b0, e0, HN0⟩ := HQ.out 0 w2 (by decide) hO2; obtain ⟨m, hmin, hm3, HMM⟩ := HM.out n0 3 b0.1 (by decide); have HO2 := Lib.hid hO2; clear hO2)
  have HRD2 : Hid (R = (List.range m).map (rdAt L)) := Lib.hid (by
    rw [HRD.out, HN0.out, ← HMM.out, Int.toNat_natCast])
  clear hmin q0 b0 e0
  go_loopw [4, 18] (fun v iv wr => ∃ i : Nat, iv = .int .i64 (i : Int) ∧ i ≤ m ∧ Hid (OwnE (w.heap.size + 1) wr v ((List.range i).map (rdAt L))) ∧ Hid (Below w.heap.size w wr) ∧ Hid (Own w.heap.size w w.heap.size L wr)) (fun _ iv _ => m - (intOf iv).toNat)
  case atStart => exact ⟨0, rfl, Nat.zero_le _, Lib.hid ⟨⟨rfl, Or.inl ⟨rfl, rfl⟩⟩, fun x hx => by cases hx⟩, Lib.hid HO2.out.2.2.2.2, HO2⟩
  case round =>
    obtain ⟨i, rfl, hi, HL, HBB, HOO⟩ := hrel
    by_cases hlt : i < m
    · have i1 : (i : Int) < (m : Int) := by omega
      obtain ⟨n1, c1, b1, e1, HN1⟩ := HQ.out (2 + 19 * i + 1) wr (by omega) HOO.out
      obtain ⟨n2, c2, b2, e2, HN2⟩ := HQ.out (2 + 19 * i) wr (by omega) HOO.out
      obtain ⟨sz, hmin, hs17, HSZ⟩ := HM.out n1 17 b1.1 (by decide)
      obtain ⟨S, HS⟩ : ∃ S, Hid (str ((L.drop (2 + 19 * i + 2)).take sz) = S) := ⟨_, Lib.hid rfl⟩
      have hBt := own_part (off := 2 + 19 * i + 2) (k := sz) HOO.out.drew (by rw [HP64.out]; omega) (by rw [HP64.out]; decide)
      have hcv := str_bytes (cap := 62 - (2 + 19 * i)) hBt
      rw [HS.out] at hcv
      have HX : Hid (rdAt L i = ⟨n2, S⟩) := Lib.hid (by
        unfold rdAt
        rw [HN2.out, show 3 + 19 * i = 2 + 19 * i + 1 by omega, HN1.out, ← HSZ.out, Int.toNat_natCast, show 4 + 19 * i = 2 + 19 * i + 2 by omega, HS.out])
      have HXS : Hid (S.size ≤ 17) := Lib.hid (by
        rw [← HS.out, str_size, List.length_take]; omega)
      have HSN : Hid ((List.range (i + 1)).map (rdAt L) = (List.range i).map (rdAt L) ++ [⟨n2, S⟩]) := Lib.hid (by
        rw [List.range_succ, List.map_append, List.map_cons, List.map_nil, HX.out])
      have HN2B := Lib.hid b2
      have HLN : Hid (((List.range i).map (rdAt L)).length = i) := Lib.hid (by simp)
      have HZ : Hid (w.heap.size + 1 ≤ wr.heap.size) := Lib.hid (World.block_lt_of_cell? _ _ c1)
      have i2 : (sz : Int) ≤ ((62 - (2 + 19 * i) : Nat) : Int) := by omega
      have i3 : 0 ≤ 2 + 19 * (i : Int) := by omega
      have i4 : 2 + 19 * (i : Int) < 64 := by omega
      have i5 : (2 + 19 * (i : Int)).toNat = 2 + 19 * i := by omega
      generalize (List.range i).map (rdAt L) = es at *
      obtain ⟨ho, hsm⟩ := HL.out
      have HO1 := Lib.hid ho
      have HSM := Lib.hid hsm
      have d1 : wr.drew.cell? ⟨w.heap.size, 2 + 19 * i, none⟩ = some (.int .u8 n2) := c2
      clear ho hsm hBt
      go_wp2_with fail
      go_region_law (refine step_append_ks (o := ⟨some 51, _, _, _, _, _⟩) elemEntry rfl (.tmp 39) (.tmp 50) rfl (w.heap.size + 1) _ _ _ rfl (owns_drew (HO1.out.alloc _)) ⟨wr.heap.size, 0, none⟩ 1 1 [.int .i64 n2, .string S] rfl rfl (news_made wr [.int .i64 n2, .string S] _) (by intro u hu; simp only [List.mem_cons, List.mem_nil_iff, or_false] at hu; rcases hu with rfl | rfl <;> rfl) (by have := HLN.out; omega) (by have := HZ.out; simp; omega) ?_; intro v1 w1 hown1 hg1 hb1; have HO2 := Lib.hid hown1; have HB1 := Lib.hid hb1; clear hown1 hg1 hb1)
      all_goals
        go_wp2_with fail
        have HBB1 : Hid (Below wr.heap.size wr (wr.alloc (.cells #[.int .i64 n2, .string S] 40)).drew) := Lib.hid ((Below.refl _ _).alloc (Nat.le_refl _) _).drew
        refine ⟨⟨i + 1, by go_num, by omega, Lib.hid (by rw [HSN.out]; exact ownE_snoc (x := ⟨n2, S⟩) HO2.out HSM.out ⟨by have := HN2B.out; dsimp only; omega, by have := HXS.out; dsimp only; omega⟩), Lib.hid ?_, Lib.hid ?_⟩, by simp [intOf]; omega⟩
        · exact (HBB.out.trans (HBB1.out.mono HBB.out.size)).trans (HB1.out.mono (Nat.le_succ _))
        · exact own_under (own_under HOO.out (HBB1.out.mono HZ.out)) HB1.out
    · obtain rfl : i = m := by omega
      have HFV : Hid (EntVal wr u4 R) := Lib.hid (by
        rw [HRD2.out]
        exact HL.out.val (by simp; omega))
      go_wp2_with fail
      go_ret
      exact ⟨u4, rfl, by rw [HR0.out]; exact HFV.out, HBB.out⟩

/-! ### What is read is what the document asks, where it is a block of entries -/

/-- A written entry's size is where it belongs. -/
theorem ent_size {es : List PEnt} {i : Nat} {x : PEnt} (h : soundE [es] = true) (hx : es[i]? = some x) : (entBlock es).getD (3 + 19 * i) 0 = x.name.size := by
  obtain ⟨h1, h2⟩ := sound_one h
  have hs : ∀ x ∈ es, x.name.size ≤ 17 := fun x hx => (named_size (h2 x hx).2.2).2
  obtain ⟨b1, b2, b3⟩ := entB_bytes h
  have hb : ∃ rest, entBlock es = [(es.length : Int), 0] ++ (es.flatMap entBytes ++ rest) := by
    unfold entBlock
    rw [seal_short b3, List.append_assoc]
    generalize List.replicate (60 - (entB es).length) 0 ++ leB (sumS (entB es ++ List.replicate (60 - (entB es).length) 0)) 4 = R
    exact ⟨R, by unfold entB; exact List.append_assoc _ _ _⟩
  obtain ⟨rest, hb⟩ := hb
  obtain ⟨r, e⟩ := flat_drop rest hs hx
  have hd : (entBlock es).drop (2 + 19 * i) = x.node :: (x.name.size : Int) :: (bytesOf x.name ++ r) := by
    rw [hb, ← e]
    exact drop_len [(es.length : Int), 0] _ _
  have g : (entBlock es).getD (2 + 19 * i + 1) 0 = (x.node :: (x.name.size : Int) :: (bytesOf x.name ++ r)).getD 1 0 := by
    rw [← hd, List.getD_eq_getElem?_getD, List.getD_eq_getElem?_getD, List.getElem?_drop]
  rw [show 3 + 19 * i = 2 + 19 * i + 1 by omega, g]
  rfl

theorem rdE_block {es : List PEnt} (h : soundE [es] = true) : rdE (entBlock es) = es := by
  have h0 : (entBlock es).getD 0 0 = es.length := by
    unfold entBlock
    rw [seal_short_at (entB_bytes h).2.2 (by rw [(entB_bytes h).2.1]; omega)]
    rfl
  have h3 := (sound_one h).1
  have e := read_ent h
  unfold rdE
  rw [pad64n_same (entBlock_length h), h0]
  unfold readEnt at e
  rw [h0] at e
  rw [show (min (es.length : Int) 3) = es.length by omega]
  conv => rhs; rw [← e]
  refine List.map_congr_left (fun i hi => ?_)
  have hi' : i < es.length := by simpa using hi
  have hx : es[i]? = some es[i] := List.getElem?_eq_getElem hi'
  have hsz := ent_size h hx
  have h17 := (named_size ((sound_one h).2 es[i] (List.getElem_mem hi')).2.2).2
  unfold rdAt readAt
  rw [hsz, show (min (es[i].name.size : Int) 17) = es[i].name.size by omega]

theorem rd_ways (zs : List Int) : (soundE [rdE zs] = true ∧ entBlock (rdE zs) = zs ∧ getEnt zs = rdE zs ∧ getEntErr zs = 0) ∨ (soundE [rdE zs] = true ∧ entBlock (rdE zs) ≠ zs ∧ getEnt zs = [] ∧ getEntErr zs = 2) ∨ (soundE [rdE zs] = false ∧ getEnt zs = [] ∧ getEntErr zs = 2) := by
  have main : isEnt zs = true → soundE [rdE zs] = true ∧ entBlock (rdE zs) = zs := fun hi => by
    obtain ⟨a, b⟩ := isEnt_block hi
    have e := rdE_block a
    rw [b] at e
    rw [e]
    exact ⟨a, b⟩
  have no : isEnt zs = false → getEnt zs = [] ∧ getEntErr zs = 2 := fun hi => by
    unfold getEnt getEntErr
    rw [hi]
    exact ⟨rfl, rfl⟩
  by_cases hs : soundE [rdE zs] = true
  · by_cases hb : entBlock (rdE zs) = zs
    · left
      have h := getEnt_block hs
      rw [hb] at h
      exact ⟨hs, hb, h.1, h.2⟩
    · right; left
      have hn : isEnt zs = false := by
        rw [← Bool.not_eq_true]
        exact fun hi => hb (main hi).2
      exact ⟨hs, hb, no hn⟩
  · right; right
    have hn : isEnt zs = false := by
      rw [← Bool.not_eq_true]
      exact fun hi => hs (main hi).1
    exact ⟨by simpa using hs, no hn⟩

end Go.Proofs.Ytkpgefjbhimmgaa
