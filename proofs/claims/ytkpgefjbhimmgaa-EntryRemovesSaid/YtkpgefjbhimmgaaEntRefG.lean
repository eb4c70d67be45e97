/-
  Proved here: what the document's own answer says when an entry is added (Copy, Add).
  The conditions stand at each theorem.
-/
import Derived.Test.YtkpgefjbhimmgaaEntRefF
import Derived.Test.YtkpgefjbhimmgaaEntAdd2
namespace Go.Proofs.Ytkpgefjbhimmgaa
open Go.RowKit
set_option linter.unusedVariables false
set_option linter.unusedSimpArgs false

/-- 'append(dst, list...)' of entries that are there, or of none. -/
theorem wp_append_ents {ops : Array Oper} {rest : List Oper} {o : Oper} {a : Act} {Q : Exit → Act → World → Prop} {w : World} (hgd : o.guard = none) (s y : Operand)
    (ho : o.op = .call { callee := .builtin .append, args := #[s, y], argTypes := #[22, 22] }) (base n : Nat) (v : Value) (xs : List Value) (hs : a.eval s = v) (hown : w.ownsRow base 40 2 v n xs)
    (ao : Option Addr) (m c : Nat) (es : List PEnt) (hy : a.eval y = .slice ao m c) (hE : EntArg w ao m c es) (hb : n + m ≤ 100000) (hbase : base ≤ w.heap.size)
    (h : ∀ v' w', w'.ownsRow base 40 2 v' (n + m) (xs ++ cellsE es) → w.grownBy w' v.ownBlock → Below base w w' → wpList Try.prog ops Q rest (a.put o.dst v') w') : wpList Try.prog ops Q (o :: rest) a w := by
  cases ao with
  | none =>
    obtain ⟨rfl, rfl⟩ := hE.2.1 rfl
    obtain rfl : es = [] := List.length_eq_zero_iff.1 hE.1.1
    obtain ⟨i0, hi, hz0, hz1, hz2⟩ := info_parts elemEntry.2.1
    refine wpList_append_own_none hgd s y 22 ho base 40 i0 2 Try.underlying22 hi v n xs hs hown hy (h v w ?_ ⟨rfl, rfl, rfl, Nat.le_refl _, fun _ _ _ => rfl⟩ (Below.refl _ _))
    show w.ownsRow base 40 2 v (n + 0) (xs ++ [])
    rw [Nat.add_zero, List.append_nil]
    exact hown
  | some ad =>
    exact wp_append_ks elemEntry hgd s y ho base n v xs hs hown ad m c (cellsE es) (by rw [cellsE_length, hE.1.1]) hy hE.news (cellsE_one es) hb hbase h

theorem own_first {base l : Nat} {w : World} {v : Value} {es : List PEnt} (h : w.ownsRow base 40 2 v l (cellsE es)) (hl : es.length = l) (hs : smallE es) : OwnE base w v es := by
  subst hl
  exact ⟨h, hs⟩

set_option maxHeartbeats 1600000 in
theorem rcopy_any (ao : Option Addr) (len cap : Nat) (bs : List (List PEnt)) (w : World) (hA : BlkArg w ao len cap bs) (h3 : ∀ b ∈ bs, b.length ≤ 3) (h96 : len ≤ 1000) :
    Calls Try.prog 36 #[.slice ao len cap] w fun e w' => ∃ v, e = .returned v ∧ RowsE w.heap.size w' v bs ∧ Below w.heap.size w w' := by
  have HA := Lib.hid hA
  have HL : Hid (bs.length = len) := Lib.hid hA.1.1
  have H3 := Lib.hid h3
  have H0 : Hid (RowsE w.heap.size (w.alloc (.cells #[] 22)) (.slice (some ⟨w.heap.size, 0, none⟩) 0 0) (bs.take 0)) := Lib.hid ⟨[], by rw [List.take_zero]; exact World.ownsRow_made (base := w.heap.size) (e := 22) (size := 1) w #[] 0 (Nat.le_refl _) (by decide) rfl, fun j u es h => by simp at h, List.Pairwise.nil⟩
  clear hA h3
  go_enter Try.func36, Try.ntmps36
  go_wp2
  go_loopw [3, 4] (fun v iv wr => ∃ i : Nat, iv = .int .i64 (i : Int) ∧ i ≤ len ∧ Hid (RowsE w.heap.size wr v (bs.take i)) ∧ Hid (Below w.heap.size w wr)) (fun _ iv _ => len - (intOf iv).toNat)
  case atStart => exact ⟨0, rfl, Nat.zero_le _, H0, Lib.hid ((Below.refl _ _).alloc (Nat.le_refl _) _)⟩
  case round =>
    obtain ⟨i, rfl, hi, HV, HB⟩ := hrel
    by_cases hlt : i < len
    · obtain ⟨b, off, es, ad, l, c, hao, hes, hc, hE⟩ := blk_at HA.out hlt
      have c1 := cell_later HB.out hc
      have hl3 : l ≤ 3 := by rw [← hE.1.1]; exact H3.out es (List.mem_of_getElem? hes)
      have HE : Hid (EntArg (wr.alloc (.cells #[] 40)) ad l c es) := Lib.hid ((hE.later HB.out).later ((Below.refl _ _).alloc (Nat.le_refl _) _))
      have HEL : Hid (es.length = l) := Lib.hid hE.1.1
      have HSE := Lib.hid hE.small
      have HT : Hid (bs.take (i + 1) = bs.take i ++ [es] ∧ (bs.take i).length = i) := Lib.hid ⟨by rw [List.take_add_one, hes]; rfl, by rw [List.length_take, HL.out]; omega⟩
      have i1 : (i : Int) < (len : Int) := by omega
      have HN : Hid ((wr.alloc (.cells #[] 40)).ownsRow wr.heap.size 40 2 (.slice (some ⟨wr.heap.size, 0, none⟩) 0 0) 0 []) := Lib.hid (World.ownsRow_made (base := wr.heap.size) (e := 40) (size := 2) wr #[] 0 (Nat.le_refl _) (by decide) rfl)
      have HNB : Hid (Below wr.heap.size wr (wr.alloc (.cells #[] 40))) := Lib.hid ((Below.refl _ _).alloc (Nat.le_refl _) _)
      have d1 := cell_later HNB.out c1
      obtain ⟨xs, x1, x2, x3⟩ := HV.out
      rw [HT.out.2] at x1
      have X1 := Lib.hid x1
      have X2 := Lib.hid x2
      have X3 := Lib.hid x3
      subst hao
      clear hc hes hE x1 x2 x3
      go_wp2_with (first
        | (refine wp_append_ents rfl (.tmp 13) (.tmp 17) rfl wr.heap.size 0 _ [] rfl HN.out ad l c es rfl HE.out (by omega) (by simp) ?_; intro u w2 hown hg hb; rw [Nat.zero_add, List.nil_append] at hown; obtain ⟨ua, uc, rfl⟩ := owns_shape hown; have HU : Hid (OwnE wr.heap.size w2 (.slice ua l uc) es) := Lib.hid (own_first hown HEL.out HSE.out); have HB2 := Lib.hid (HNB.out.trans hb); have HO2 : Hid ((w2.alloc (.cells #[.slice ua l uc] 22)).ownsRow w.heap.size 22 1 u3 i xs) := Lib.hid ((owns_later_k X1.out HB2.out).alloc _); have HSZ : Hid (w.heap.size ≤ w2.heap.size) := Lib.hid (Nat.le_trans HB.out.size HB2.out.size); clear hown hg hb)
        | (refine wp_append_ks elemEnts rfl (.tmp 12) (.tmp 19) rfl w.heap.size i _ xs rfl HO2.out ⟨w2.heap.size, 0, none⟩ 1 1 [.slice ua l uc] rfl rfl (news_made w2 [.slice ua l uc] _) (by intro q hq; rw [List.mem_singleton.1 hq]; rfl) (by omega) (by have := HSZ.out; simp; omega) ?_; intro v4 w4 hown4 hg4 hb4; have HO4 := Lib.hid hown4; have HG4 := Lib.hid hg4; have HB4 := Lib.hid hb4; clear hown4 hg4 hb4))
      go_roundw
      case rel => exact ⟨i + 1, by go_num, by omega, Lib.hid (by
        rw [HT.out.1]
        exact RowsE.snoc (by rw [HT.out.2]; exact X1.out) X2.out X3.out HB2.out HB.out.size HU.out (by rw [HT.out.2]; exact HO4.out) HG4.out), Lib.hid (((HB.out.trans (HB2.out.mono HB.out.size)).alloc HSZ.out _).trans HB4.out)⟩
      case measure => simp [intOf]; omega
    · obtain rfl : i = len := by omega
      have HF : Hid (RowsE w.heap.size wr u3 bs) := Lib.hid (by have := HV.out; rwa [← HL.out, List.take_length] at this)
      go_wp2_with fail
      go_ret
      exact ⟨_, rfl, HF.out, HB.out⟩

theorem add_ways4 {bs : List (List PEnt)} {x : PEnt} (hz : checkE bs x = 0) : ((findRes bs x.name).2.2 = 0 ∧ addRes bs x = ([], 0, 5)) ∨
    ((findRes bs x.name).2.2 = 4 ∧ bs.length ≤ 96 ∧ (∀ b ∈ bs, b.length ≤ 3) ∧
      ((∃ i, bs.findIdx? (fun b => decide (b.length < 3)) = some i ∧ addRes bs x = (bs.set i (bs.getD i [] ++ [x]), (i : Int), 0)) ∨
       (bs.findIdx? (fun b => decide (b.length < 3)) = none ∧ bs.length = 96 ∧ addRes bs x = ([], 0, 11)) ∨
       (bs.findIdx? (fun b => decide (b.length < 3)) = none ∧ bs.length ≠ 96 ∧ addRes bs x = (bs ++ [[x]], (bs.length : Int), 0)))) := by
  obtain ⟨hr, hl, hs⟩ := checkE_ok.1 hz
  rcases add_ways bs x with ⟨h1, _⟩ | ⟨_, h1, h2, _⟩ | ⟨_, h1, h2⟩ | ⟨_, h1, h2, h3, h4⟩
  · rw [right_eq, h1] at hr; cases hr
  · rcases find_ways bs x.name with ⟨g1, hr'⟩ | ⟨g1, g2, hr'⟩ | ⟨g1, g2, g3, hr'⟩ | ⟨g1, g2, g3, ⟨_, hr'⟩ | ⟨i, k, _, hr'⟩⟩
    · rw [right_name hr] at g1; cases g1
    · omega
    · rw [hs] at g3; cases g3
    · rw [hr'] at h2; exact absurd rfl h2
    · rw [hr'] at h1; exact absurd rfl h1
  · exact Or.inl ⟨h1, h2⟩
  · exact Or.inr ⟨h1, h2, h3, h4⟩

end Go.Proofs.Ytkpgefjbhimmgaa
