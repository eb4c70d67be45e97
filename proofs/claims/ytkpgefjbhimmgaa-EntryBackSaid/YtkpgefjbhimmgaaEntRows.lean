/-
  Proved here: what the landed entry's copies are (Clone, cloned), and which block has room (IndexFunc).
  The conditions stand at each theorem.
-/
import Derived.Test.YtkpgefjbhimmgaaEntDec
namespace Go.Proofs.Ytkpgefjbhimmgaa
open Go.RowKit
set_option linter.unusedVariables false
set_option linter.unusedSimpArgs false

theorem cellsE_get : ∀ {es : List PEnt} {j : Nat} {u : Value}, (cellsE es)[j]? = some u → ∃ i x, es[i]? = some x ∧ ((j = 2 * i ∧ u = .int .i64 x.node) ∨ (j = 2 * i + 1 ∧ u = .string x.name))
  | [], j, u, h => by simp [cellsE] at h
  | y :: es, 0, u, h => ⟨0, y, rfl, Or.inl ⟨rfl, by simp [cellsE] at h; exact h.symm⟩⟩
  | y :: es, 1, u, h => ⟨0, y, rfl, Or.inr ⟨rfl, by simp [cellsE] at h; exact h.symm⟩⟩
  | y :: es, j + 2, u, h => by
    have h' : (cellsE es)[j]? = some u := h
    obtain ⟨i, x, hx, hj⟩ := cellsE_get h'
    exact ⟨i + 1, x, hx, hj.imp (fun e => ⟨by omega, e.2⟩) (fun e => ⟨by omega, e.2⟩)⟩

theorem cellsE_length : ∀ es : List PEnt, (cellsE es).length = es.length * 2
  | [] => rfl
  | y :: es => by
    show (cellsE es).length + 2 = (es.length + 1) * 2
    rw [cellsE_length es]
    omega

theorem cellsE_one (es : List PEnt) : ∀ u ∈ cellsE es, u.oneCell' = true := by
  intro u hu
  unfold cellsE at hu
  obtain ⟨x, _, hx⟩ := List.mem_flatMap.1 hu
  simp only [List.mem_cons, List.mem_nil_iff, or_false] at hx
  rcases hx with rfl | rfl <;> rfl

theorem EntArg.news {w : World} {ad : Addr} {len cap : Nat} {es : List PEnt} (h : EntArg w (some ad) len cap es) : ∀ j u, (cellsE es)[j]? = some u → w.cell? (ad.add j) = some u := by
  intro j u hu
  obtain ⟨i, x, hx, hj⟩ := cellsE_get hu
  obtain ⟨⟨h1, h2, h3⟩, _, _⟩ := h
  have hi := (List.getElem?_eq_some_iff.1 hx).1
  obtain ⟨b, off, he, hc⟩ := h3.resolve_left (by omega)
  cases he
  obtain ⟨c1, _, c2, _⟩ := hc i x hx
  rw [Go.WideShapes.add_plain]
  rcases hj with ⟨rfl, rfl⟩ | ⟨rfl, rfl⟩
  · exact c1
  · rw [← Nat.add_assoc]; exact c2

theorem EntArg.small {w : World} {ao : Option Addr} {len cap : Nat} {es : List PEnt} (h : EntArg w ao len cap es) : smallE es := by
  intro x hx
  obtain ⟨i, hi, rfl⟩ := List.mem_iff_getElem.1 hx
  obtain ⟨⟨h1, h2, h3⟩, _, _⟩ := h
  obtain ⟨b, off, he, hc⟩ := h3.resolve_left (by omega)
  obtain ⟨_, c1, _, c2⟩ := hc i _ (List.getElem?_eq_getElem hi)
  exact ⟨c1, c2⟩

theorem owns_mono {w : World} {base base' n sz : Nat} {e : TypeId} {v : Value} {xs : List Value} (h : w.ownsRow base' e sz v n xs) (hb : base ≤ base') : w.ownsRow base e sz v n xs := by
  refine ⟨h.1, h.2.imp_right ?_⟩
  rintro ⟨g, cap, cur, h1, h2, h3⟩
  exact ⟨g, cap, cur, h1, Nat.le_trans hb h2, h3⟩

theorem owns_later_k {w w' : World} {base n sz : Nat} {e : TypeId} {v : Value} {xs : List Value} (h : w.ownsRow base e sz v n xs) (hb : Below w.heap.size w w') : w'.ownsRow base e sz v n xs :=
  h.kept (row := none) ⟨hb.os, hb.tape, hb.output, hb.size, fun k hk _ => hb.block k hk⟩ (by cases v.ownBlock <;> simp)

theorem OwnE.later {base : Nat} {w w' : World} {v : Value} {es : List PEnt} (h : OwnE base w v es) (hb : Below w.heap.size w w') : OwnE base w' v es := ⟨owns_later_k h.1 hb, h.2⟩
theorem OwnE.mono {base base' : Nat} {w : World} {v : Value} {es : List PEnt} (h : OwnE base' w v es) (hb : base ≤ base') : OwnE base w v es := ⟨owns_mono h.1 hb, h.2⟩

/-- Two rows of elements of two types lie in two blocks. -/
theorem owns_ne_k {w : World} {b1 n1 s1 b2 n2 s2 : Nat} {e1 e2 : TypeId} {v1 v2 : Value} {x1 x2 : List Value} (h1 : w.ownsRow b1 e1 s1 v1 n1 x1) (h2 : w.ownsRow b2 e2 s2 v2 n2 x2) (he : e1 ≠ e2) : v1.ownBlock = none ∨ v1.ownBlock ≠ v2.ownBlock := by
  rcases h1.2 with ⟨rfl, _⟩ | ⟨g1, c1, u1, rfl, _, hg1, _⟩
  · exact Or.inl rfl
  · refine Or.inr ?_
    rcases h2.2 with ⟨rfl, _⟩ | ⟨g2, c2, u2, rfl, _, hg2, _⟩
    · simp [Value.ownBlock]
    · intro e
      simp [Value.ownBlock] at e
      subst e
      rw [hg1] at hg2
      simp at hg2
      exact he hg2.2

theorem elemEnts : ElemK 33 22 (.slice none 0 0) 1 24 := ⟨Try.underlying33, by kernel_rfl, rfl, by decide, by decide⟩

set_option maxHeartbeats 800000 in
theorem clone_any (ao : Option Addr) (len cap : Nat) (es : List PEnt) (w : World) (hA : EntArg w ao len cap es) (hl : len ≤ 1000) :
    Calls Try.prog 49 #[.slice ao len cap] w fun e w' => ∃ v, e = .returned v ∧ OwnE w.heap.size w' v es ∧ Below w.heap.size w w' := by
  cases ao with
  | none =>
    obtain ⟨rfl, rfl⟩ := hA.2.1 rfl
    obtain rfl : es = [] := List.length_eq_zero_iff.1 hA.1.1
    clear hA
    have hnil := fun (w : World) => Lib.run_eql_slice_nil (P := Try.prog) w 22 40 none 0 0 0 0 Try.underlying22
    go_enter Try.func49, Try.ntmps49
    go_wp2
    go_ret
    exact ⟨_, rfl, ⟨⟨rfl, Or.inl ⟨rfl, rfl⟩⟩, fun x hx => by cases hx⟩, Below.refl _ _⟩
  | some ad =>
    have HN := Lib.hid (hA.later ((Below.refl _ _).alloc (Nat.le_refl _) (.cells #[] 40))).news
    have HS := Lib.hid hA.small
    have HL := Lib.hid hA.1.1
    have HO : Hid ((w.alloc (.cells #[] 40)).ownsRow w.heap.size 40 2 (.slice (some ⟨w.heap.size, 0, none⟩) 0 0) 0 []) := Lib.hid (World.ownsRow_made (base := w.heap.size) (e := 40) (size := 2) w #[] 0 (Nat.le_refl _) (by decide) rfl)
    have HB : Hid (Below w.heap.size w (w.alloc (.cells #[] 40))) := Lib.hid ((Below.refl _ _).alloc (Nat.le_refl _) _)
    have hnil := fun (w : World) => Lib.run_eql_slice_nil (P := Try.prog) w 22 40 (some ad) len cap 0 0 Try.underlying22
    clear hA
    go_enter Try.func49, Try.ntmps49
    go_wp2_with (refine wp_append_ks elemEntry rfl (.tmp 5) (.tmp 6) rfl w.heap.size 0 _ [] rfl HO.out ad len cap (cellsE es) (by rw [cellsE_length, HL.out]) rfl HN.out (cellsE_one es) (by omega) (by simp) ?_; intro v1 w1 hown1 hg1 hb1; have HO1 := Lib.hid hown1; have HB1 := Lib.hid (HB.out.trans hb1); clear hown1 hg1 hb1)
    go_ret
    exact ⟨v1, rfl, ⟨by have := HO1.out; rw [Nat.zero_add, List.nil_append] at this; rw [HL.out]; exact this, HS.out⟩, HB1.out⟩

/-- Blocks of entries of the call's own, each in memory of its own. -/
def RowsE (base : Nat) (w : World) (v : Value) (bs : List (List PEnt)) : Prop :=
  ∃ xs : List Value, w.ownsRow base 22 1 v bs.length xs ∧ (∀ (j : Nat) (u : Value) (es : List PEnt), xs[j]? = some u → bs[j]? = some es → OwnE base w u es) ∧ xs.Pairwise (fun u u' => u.ownBlock = none ∨ u.ownBlock ≠ u'.ownBlock)

theorem RowsE.nil (base : Nat) (w : World) : RowsE base w (.slice none 0 0) [] := ⟨[], ⟨rfl, Or.inl ⟨rfl, rfl⟩⟩, fun j u es h => by simp at h, List.Pairwise.nil⟩

theorem owns_block_lt {w : World} {base n sz : Nat} {e : TypeId} {v : Value} {xs : List Value} (h : w.ownsRow base e sz v n xs) : v.ownBlock = none ∨ ∃ g, v.ownBlock = some g ∧ base ≤ g ∧ g < w.heap.size := by
  cases hv : v.ownBlock with
  | none => exact Or.inl rfl
  | some g => exact Or.inr ⟨g, rfl, h.lt g hv⟩

theorem slice_one {w : World} {base n sz : Nat} {e : TypeId} {v : Value} {xs : List Value} (h : w.ownsRow base e sz v n xs) : v.oneCell' = true := by
  obtain ⟨ao, c, rfl⟩ := owns_shape h
  rfl

/-- One more block. -/
theorem RowsE.snoc {base : Nat} {wr w2 w4 : World} {v v' u : Value} {bs : List (List PEnt)} {es : List PEnt} {xs : List Value}
    (h1 : wr.ownsRow base 22 1 v bs.length xs) (h2 : ∀ (j : Nat) (u : Value) (es : List PEnt), xs[j]? = some u → bs[j]? = some es → OwnE base wr u es) (h3 : xs.Pairwise (fun u u' => u.ownBlock = none ∨ u.ownBlock ≠ u'.ownBlock))
    (hb : Below wr.heap.size wr w2) (hbase : base ≤ wr.heap.size) (hu : OwnE wr.heap.size w2 u es) {o : Obj} (hown : w4.ownsRow base 22 1 v' (bs.length + 1) (xs ++ [u])) (hg : (w2.alloc o).grownBy w4 v.ownBlock) : RowsE base w4 v' (bs ++ [es]) := by
  have hxl : xs.length = bs.length := by have := h1.1; omega
  have hv2 : (w2.alloc o).ownsRow base 22 1 v bs.length xs := (owns_later_k h1 hb).alloc o
  have keep : ∀ {b n : Nat} {u : Value} {ys : List Value}, w2.ownsRow b 40 2 u n ys → w4.ownsRow b 40 2 u n ys := fun ho => (ho.alloc o).kept hg (owns_ne_k (ho.alloc o) hv2 (by decide))
  refine ⟨xs ++ [u], by rw [List.length_append]; exact hown, fun j q es' hq hes => ?_, ?_⟩
  · by_cases hj : j < xs.length
    · rw [List.getElem?_append_left hj] at hq
      rw [List.getElem?_append_left (by omega)] at hes
      have ho := h2 j q es' hq hes
      exact ⟨keep (owns_later_k ho.1 hb), ho.2⟩
    · rw [List.getElem?_append_right (by omega)] at hq
      rw [List.getElem?_append_right (by omega)] at hes
      have hj0 : j = xs.length := by
        have := (List.getElem?_eq_some_iff.1 hq).1
        simp at this
        omega
      subst hj0
      rw [Nat.sub_self] at hq
      rw [hxl, Nat.sub_self] at hes
      simp at hq hes
      subst hq
      subst hes
      exact ⟨keep (owns_mono hu.1 hbase), hu.2⟩
  · rw [List.pairwise_append]
    refine ⟨h3, List.pairwise_singleton _ _, fun a ha b hb' => ?_⟩
    rw [List.mem_singleton.1 hb']
    obtain ⟨i, hi, rfl⟩ := List.mem_iff_getElem.1 ha
    have ho := h2 i xs[i] (bs[i]'(by omega)) (List.getElem?_eq_getElem hi) (List.getElem?_eq_getElem (by omega))
    rcases owns_block_lt ho.1 with e | ⟨g, e, _, hlt⟩
    · exact Or.inl e
    · right
      rw [e]
      rcases owns_block_lt hu.1 with e2 | ⟨g2, e2, hge, _⟩
      · rw [e2]; simp
      · rw [e2]
        intro e3
        simp at e3
        omega

set_option maxHeartbeats 1600000 in
theorem cloned_any (ao : Option Addr) (len cap : Nat) (bs : List (List PEnt)) (w : World) (hA : BlkArg w ao len cap bs) (h3 : ∀ b ∈ bs, b.length ≤ 3) (h96 : len ≤ 1000) :
    Calls Try.prog 37 #[.slice ao len cap] w fun e w' => ∃ v, e = .returned v ∧ RowsE w.heap.size w' v bs ∧ Below w.heap.size w w' := by
  have HA := Lib.hid hA
  have HL : Hid (bs.length = len) := Lib.hid hA.1.1
  have H3 := Lib.hid h3
  clear hA h3
  go_enter Try.func37, Try.ntmps37
  go_wp2
  go_loopw [3, 8] (fun v iv wr => ∃ i : Nat, iv = .int .i64 (i : Int) ∧ i ≤ len ∧ Hid (RowsE w.heap.size wr v (bs.take i)) ∧ Hid (Below w.heap.size w wr)) (fun _ iv _ => len - (intOf iv).toNat)
  case atStart => exact ⟨0, rfl, Nat.zero_le _, Lib.hid (RowsE.nil _ _), Lib.hid (Below.refl _ _)⟩
  case round =>
    obtain ⟨i, rfl, hi, HV, HB⟩ := hrel
    by_cases hlt : i < len
    · obtain ⟨b, off, es, ad, l, c, hao, hes, hc, hE⟩ := blk_at HA.out hlt
      have c1 := cell_later HB.out hc
      have hl3 : l ≤ 3 := by rw [← hE.1.1]; exact H3.out es (List.mem_of_getElem? hes)
      have cC := clone_any ad l c es wr (hE.later HB.out) (by omega)
      have HT : Hid (bs.take (i + 1) = bs.take i ++ [es] ∧ (bs.take i).length = i) := Lib.hid ⟨by rw [List.take_add_one, hes]; rfl, by rw [List.length_take, HL.out]; omega⟩
      have i1 : (i : Int) < (len : Int) := by omega
      obtain ⟨xs, x1, x2, x3⟩ := HV.out
      rw [HT.out.2] at x1
      have X1 := Lib.hid x1
      have X2 := Lib.hid x2
      have X3 := Lib.hid x3
      subst hao
      clear hc hes hE x1 x2 x3
      go_wp2_with fail
      go_at_call 49
      refine cC.mono ?_
      rintro e w2 ⟨u0, rfl, hu, hb2⟩
      obtain ⟨ua, uc, rfl⟩ := owns_shape hu.1
      obtain ⟨u, hud⟩ : ∃ u, u = Value.slice ua es.length uc := ⟨_, rfl⟩
      rw [← hud] at hu
      have HUD := Lib.hid hud
      clear hud
      have HU := Lib.hid hu
      have HB2 := Lib.hid hb2
      have HO2 : Hid ((w2.alloc (.cells #[.slice ua es.length uc] 22)).ownsRow w.heap.size 22 1 u3 i xs) := Lib.hid ((owns_later_k X1.out hb2).alloc _)
      have HSZ : Hid (w.heap.size ≤ w2.heap.size) := Lib.hid (Nat.le_trans HB.out.size hb2.size)
      clear hu hb2 cC
      go_wp2_with (refine wp_append_ks elemEnts rfl (.tmp 12) (.tmp 15) rfl w.heap.size i _ xs rfl HO2.out ⟨w2.heap.size, 0, none⟩ 1 1 [.slice ua es.length uc] rfl rfl (news_made w2 [.slice ua es.length uc] _) (by intro q hq; rw [List.mem_singleton.1 hq]; rfl) (by omega) (by have := HSZ.out; simp; omega) ?_; intro v4 w4 hown4 hg4 hb4; have HO4 := Lib.hid hown4; have HG4 := Lib.hid hg4; have HB4 := Lib.hid hb4; clear hown4 hg4 hb4)
      go_roundw
      case rel => exact ⟨i + 1, by go_num, by omega, Lib.hid (by
        rw [HT.out.1]
        exact RowsE.snoc (by rw [HT.out.2]; exact X1.out) X2.out X3.out HB2.out HB.out.size HU.out (by rw [HT.out.2, HUD.out]; exact HO4.out) HG4.out), Lib.hid (((HB.out.trans (HB2.out.mono HB.out.size)).alloc HSZ.out _).trans HB4.out)⟩
      case measure => simp [intOf]; omega
    · obtain rfl : i = len := by omega
      have HF : Hid (RowsE w.heap.size wr u3 bs) := Lib.hid (by have := HV.out; rwa [← HL.out, List.take_length] at this)
      go_wp2_with fail
      go_ret
      exact ⟨_, rfl, HF.out, HB.out⟩

theorem room_any (ad : Option Addr) (l c : Nat) (w : World) (hl : l ≤ 140737488351232) : Calls Try.prog 48 #[.slice ad l c] w fun e w' => e = .returned (.bool (decide (l < 3))) ∧ w = w' := by
  by_cases h : l < 3
  · have i1 : (l : Int) < 3 := by omega
    have HD : Hid (decide (l < 3) = true) := Lib.hid (decide_eq_true h)
    clear h
    go_enter Try.func48, Try.ntmps48
    go_wp2
    go_ret
    exact ⟨by rw [HD.out]; rfl, rfl⟩
  · have i1 : ¬ (l : Int) < 3 := by omega
    have HD : Hid (decide (l < 3) = false) := Lib.hid (decide_eq_false h)
    clear h
    go_enter Try.func48, Try.ntmps48
    go_wp2
    go_ret
    exact ⟨by rw [HD.out]; rfl, rfl⟩

/-- The first block that has room. -/
def roomAt (bs : List (List PEnt)) : Int := match bs.findIdx? (fun b => decide (b.length < 3)) with
  | some i => i
  | none => -1

set_option maxHeartbeats 1600000 in
theorem index_room (ao : Option Addr) (len cap : Nat) (bs : List (List PEnt)) (w : World) (hA : BlkArg w ao len cap bs) :
    Calls Try.prog 47 #[.slice ao len cap, .func (.func 48) #[] #[]] w fun e w' => e = .returned (.int .i64 (roomAt bs)) ∧ w = w' := by
  have HA := Lib.hid hA
  have HL : Hid (bs.length = len) := Lib.hid hA.1.1
  have hm := hA.1.2.1
  obtain ⟨R, HR⟩ : ∃ R, Hid (roomAt bs = R) := ⟨_, Lib.hid rfl⟩
  rw [HR.out]
  clear hA
  go_enter Try.func47, Try.ntmps47
  go_wp2
  go_loop [8] (fun iv => ∃ i : Nat, iv = .int .i64 (i : Int) ∧ i ≤ len ∧ Hid (∀ b ∈ bs.take i, 3 ≤ b.length)) (fun iv => len - (intOf iv).toNat)
  case atStart => exact ⟨0, rfl, Nat.zero_le _, Lib.hid (by simp)⟩
  case round =>
    obtain ⟨i, rfl, hi, HP⟩ := hrel
    by_cases hlt : i < len
    · obtain ⟨b, off, es, ad, l, c, hao, hes, hc, hE⟩ := blk_at HA.out hlt
      have hel : es.length = l := hE.1.1
      have cR := room_any ad l c w hE.1.2.1
      have HES := Lib.hid hes
      have HEL := Lib.hid hel
      have i1 : (i : Int) < (len : Int) := by omega
      subst hao
      by_cases h3 : l < 3
      · have HF : Hid (R = (i : Int)) := Lib.hid (by
          rw [← HR.out]
          unfold roomAt
          have hf : bs.findIdx? (fun b => decide (b.length < 3)) = some i := by
            rw [List.findIdx?_eq_some_iff_getElem]
            have hil : i < bs.length := by rw [HL.out]; exact hlt
            have hg : bs[i] = es := by have := List.getElem?_eq_getElem hil; rw [hes] at this; simpa using this.symm
            refine ⟨hil, by rw [hg, hel]; exact decide_eq_true h3, fun j hj => ?_⟩
            have := HP.out (bs[j]'(by omega)) (List.mem_take_iff_getElem.2 ⟨j, by omega, rfl⟩)
            simp
            omega
          rw [hf])
        rw [decide_eq_true h3] at cR
        clear hes hE hel h3
        go_wp2_with (go_at_call 48; refine cR.mono ?_; rintro e w' ⟨rfl, rfl⟩)
        go_ret
        exact ⟨by rw [HF.out]; rfl, rfl⟩
      · rw [decide_eq_false h3] at cR
        have HPN : Hid (∀ b ∈ bs.take (i + 1), 3 ≤ b.length) := Lib.hid (by
          rw [List.take_add_one, hes]
          intro b hb
          rcases List.mem_append.1 hb with hb | hb
          · exact HP.out b hb
          · simp at hb
            subst hb
            omega)
        clear hes hE hel h3
        go_wp2_with (go_at_call 48; refine cR.mono ?_; rintro e w' ⟨rfl, rfl⟩)
        go_round
        case rel => exact ⟨i + 1, by go_num, by omega, HPN⟩
        case measure => simp [intOf]; omega
    · obtain rfl : i = len := by omega
      have HF : Hid (R = -1) := Lib.hid (by
        rw [← HR.out]
        unfold roomAt
        have hf : bs.findIdx? (fun b => decide (b.length < 3)) = none := by
          rw [List.findIdx?_eq_none_iff]
          intro b hb
          have := HP.out b (by rw [← HL.out, List.take_length]; exact hb)
          simp
          omega
        rw [hf])
      go_wp2
      go_ret
      exact ⟨by rw [HF.out]; rfl, rfl⟩

end Go.Proofs.Ytkpgefjbhimmgaa
