/-
  Proved here: the document's own comparing of blocks of entries (Same) says yes of like ones.
  The conditions stand at each theorem.
-/
import Derived.Test.YtkpgefjbhimmgaaEntDec
namespace Go.Proofs.Ytkpgefjbhimmgaa
open Go.RowKit
set_option linter.unusedVariables false
set_option linter.unusedSimpArgs false

set_option maxHeartbeats 1600000 in
theorem same_true (ao bo : Option Addr) (len c1 c2 : Nat) (bs : List (List PEnt)) (w : World) (h1 : BlkArg w ao len c1 bs) (h2 : BlkArg w bo len c2 bs) :
    Calls Try.prog 17 #[.slice ao len c1, .slice bo len c2] w fun e w' => e = .returned (.bool true) ∧ Below w.heap.size w w' := by
  have H1 := Lib.hid h1
  have H2 := Lib.hid h2
  have hlen : len ≤ 140737488351232 := h1.1.2.1
  clear h1 h2
  go_enter Try.func17, Try.ntmps17
  go_wp2
  go_loopw [5] (fun iv wr => ∃ i : Nat, iv = .int .i64 (i : Int) ∧ i ≤ len ∧ Hid (Below w.heap.size w wr)) (fun iv _ => len - (intOf iv).toNat)
  case atStart => exact ⟨0, rfl, Nat.zero_le _, Lib.hid (Below.refl _ _)⟩
  case round =>
    obtain ⟨wo, hwo⟩ : ∃ wo : World, wo = wr := ⟨_, rfl⟩
    subst hwo
    obtain ⟨i, rfl, hi, HB⟩ := hrel
    by_cases hlt : i < len
    · obtain ⟨g1, o1, es, ad, l, c, hao, hes, hc, hE⟩ := blk_at H1.out hlt
      obtain ⟨g2, o2, es', bd, l', c', hbo, hes', hc', hE'⟩ := blk_at H2.out hlt
      rw [hes] at hes'
      obtain rfl : es = es' := by simpa using hes'
      have hl : es.length = l := hE.1.1
      have hl' : es.length = l' := hE'.1.1
      have hlm : l ≤ 140737488351232 := hE.1.2.1
      obtain rfl : l = l' := hl.symm.trans hl'
      have HE := Lib.hid hE
      have HE' := Lib.hid hE'
      have CC : Hid (∀ W, Below w.heap.size w W → W.cell? ⟨g1, o1 + i, none⟩ = some (.slice ad l c) ∧ W.cell? ⟨g2, o2 + i, none⟩ = some (.slice bd l c')) := Lib.hid (fun W hW => ⟨cell_later hW hc, cell_later hW hc'⟩)
      subst hao
      subst hbo
      have q1 := (CC.out wo HB.out).1
      have q2 := (CC.out wo HB.out).2
      have i0 : 0 ≤ (i : Int) := by omega
      have i1 : (i : Int) < (len : Int) := by omega
      clear hes hes' hE hE' hc hc' hl hl'
      go_wp2_with fail
      go_quiet (fail)
      go_wp2_with fail
      go_loopw [6] (fun kv wr => ∃ k : Nat, kv = .int .i64 (k : Int) ∧ k ≤ l ∧ Hid (Below w.heap.size w wr)) (fun kv _ => l - (intOf kv).toNat)
      case atStart => exact ⟨0, rfl, Nat.zero_le _, Lib.hid (below_drewN HB.out _)⟩
      case round =>
        obtain ⟨k, rfl, hk, HB2⟩ := hrel
        have p1 := (CC.out wr HB2.out).1
        have p2 := (CC.out wr HB2.out).2
        by_cases hkl : k < l
        · obtain ⟨eb, eo, x, hao2, hx, d1, d2, d3, d4⟩ := ent_at HE.out hkl
          obtain ⟨eb', eo', x', hbo2, hx', d1', d2', d3', d4'⟩ := ent_at HE'.out hkl
          rw [hx] at hx'
          obtain rfl : x = x' := by simpa using hx'
          obtain ⟨nd, nm⟩ := x
          dsimp only at d1 d3 d1' d3'
          have r1 := cell_later HB2.out d1
          have r3 := cell_later HB2.out d3
          have r1' := cell_later HB2.out d1'
          have r3' := cell_later HB2.out d3'
          subst hao2
          subst hbo2
          have k0 : 0 ≤ (k : Int) := by omega
          have k1 : (k : Int) < (l : Int) := by omega
          clear hx hx' d1 d2 d3 d4 d1' d2' d3' d4'
          go_wp2_with fail
          go_quiet (fail)
          go_wp2_with fail
          go_roundw
          case rel => exact ⟨k + 1, by go_num, by omega, Lib.hid (below_drewN HB2.out _)⟩
          case measure => simp [intOf]; omega
        · obtain rfl : k = l := by omega
          go_wp2_with fail
          go_roundw
          case rel => exact ⟨i + 1, by go_num, by omega, HB2⟩
          case measure => simp [intOf]; omega
    · obtain rfl : i = len := by omega
      go_wp2_with fail
      go_ret
      exact ⟨rfl, HB.out⟩

/-- Two lists of one block each, made one after the other. -/
theorem two_blks {w : World} {T : TypeId} {a1 a2 : Option Addr} {n1 n2 k1 k2 : Nat} {L1 L2 : List PEnt} (h1 : EntArg w a1 n1 k1 L1) (h2 : EntArg w a2 n2 k2 L2) :
    BlkArg ((w.alloc (.cells #[.slice a1 n1 k1] T)).alloc (.cells #[.slice a2 n2 k2] T)) (some ⟨w.heap.size, 0, none⟩) 1 1 [L1] ∧
    BlkArg ((w.alloc (.cells #[.slice a1 n1 k1] T)).alloc (.cells #[.slice a2 n2 k2] T)) (some ⟨w.heap.size + 1, 0, none⟩) 1 1 [L2] ∧
    Below w.heap.size w ((w.alloc (.cells #[.slice a1 n1 k1] T)).alloc (.cells #[.slice a2 n2 k2] T)) := by
  refine ⟨(blk_one (T := T) h1).later ((Below.refl _ _).alloc (Nat.le_refl _) _), ?_, ((Below.refl _ _).alloc (Nat.le_refl _) _).alloc (by simp) _⟩
  have h := blk_one (T := T) (h2.later ((Below.refl w.heap.size w).alloc (Nat.le_refl _) (.cells #[.slice a1 n1 k1] T)))
  rw [World.size_alloc] at h
  exact h

end Go.Proofs.Ytkpgefjbhimmgaa
