/-
  Proved here: what the document's own Decode (drydockref09) answers of 32 bytes that say Format 2; and of any bytes.
  The conditions stand at each theorem.
-/
import Derived.Test.YtojfhhmjoledjaaNRDec
namespace Go.Proofs.Ytojfhhmjoledjaa
open Go.RowKit
set_option linter.unusedVariables false
set_option linter.unusedSimpArgs false

/-- Which slot is read where. -/
def kOf (i : Int) : Nat := ((i - 6) / 4).toNat

theorem owns_below {w w' : World} {base n sz : Nat} {e : TypeId} {v : Value} {xs : List Value} (h : w.ownsRow base e sz v n xs) (hb : Below w.heap.size w w') : w'.ownsRow base e sz v n xs := by
  refine ⟨h.1, ?_⟩
  rcases h.2 with h2 | ⟨g', cap, cur, hv, hg', hh, rest⟩
  · exact Or.inl h2
  · exact Or.inr ⟨g', cap, cur, hv, hg', block_kept hh hb, rest⟩

theorem owns_shape {w : World} {base n sz : Nat} {e : TypeId} {v : Value} {xs : List Value} (h : w.ownsRow base e sz v n xs) : ∃ ao c, v = .slice ao n c := by
  rcases h.2 with ⟨hv, h0⟩ | ⟨g', cap, cur, hv, _⟩
  · subst h0; exact ⟨none, 0, hv⟩
  · exact ⟨_, _, hv⟩

/-- The list that some rounds of reading have made. -/
def NewInv (w0 : World) (g base : Nat) (V : Nat → Int) (xs : List PX) (wr : World) : Prop :=
  ∃ vv cs, NodeVar w0 g V vv wr ∧ wr.ownsRow base 40 2 vv xs.length cs ∧ XCells cs xs

set_option maxRecDepth 100000 in
set_option maxHeartbeats 6400000 in
theorem rdec_new (ao : Option Addr) (cap : Nat) (zs : List Int) (w : World) (hA : Arg w ao 32 cap zs) (hf : zs.getD 1 0 = 2) :
    Calls Try.prog 5 #[.slice ao (32 : Nat) cap] w fun e w' => ∃ xo m xc, e = .returned (.tuple #[(rdecN zs).val (.slice xo m xc), .int .i64 (rdecErr zs)]) ∧ XIs w' xo m (rdecN zs).x ∧ Below w.heap.size w w' := by
  have hrn : rNode zs = ⟨zs.getD 0 0, 2, leN zs 2 2, leN zs 4 2, 0, 0, 0, 0, 0, 0, rFil (rSlots zs), leN zs 18 2⟩ := by unfold rNode; rw [if_pos hf]
  have hB := hA.1
  have HB := Lib.hid hB
  have h32 : zs.length = 32 := hB.1
  obtain ⟨g, off, rfl, hc⟩ := hB.2.2.2.resolve_left (by decide)
  have f0 := hc 0 (by decide)
  have f1 := hc 1 (by decide)
  rw [Nat.add_zero] at f0
  have b0 := hB.2.2.1 _ (getD_mem (l := zs) (k := 0) (by omega))
  have b1 := hB.2.2.1 _ (getD_mem (l := zs) (k := 1) (by omega))
  have HRW := Lib.hid (rways zs h32)
  have HSM := Lib.hid (rnode_small hB.2.2.1 h32)
  have HSX := Lib.hid (rslots_small hB.2.2.1 h32)
  have HZ := Lib.hid hB.2.2.1
  have H32 := Lib.hid h32
  have hcap := hA.2.2.1
  have CN := Lib.hid (fun (W : World) (hW : Below w.heap.size w W) (p k : Int) (h1 : 0 ≤ p ∧ 0 ≤ k) (h2 : k.toNat ≤ 4) (h3 : p.toNat + k.toNat ≤ 32) => num09 (cap := cap) (pz := p) (kz := k) (hB.later hW) h2 h3 h1)
  obtain ⟨x0, HX0⟩ : ∃ x, Hid (zs.getD 0 0 = x) := ⟨_, Lib.hid rfl⟩
  obtain ⟨x1, HX1⟩ : ∃ x, Hid (zs.getD 1 0 = x) := ⟨_, Lib.hid rfl⟩
  obtain ⟨n2, HN2⟩ : ∃ x, Hid (leN zs 2 2 = x) := ⟨_, Lib.hid rfl⟩
  obtain ⟨n4, HN4⟩ : ∃ x, Hid (leN zs 4 2 = x) := ⟨_, Lib.hid rfl⟩
  rw [HX0.out] at f0 b0
  rw [HX1.out] at f1 b1 hf
  subst hf
  have w0 : IntKind.i64.wrap x0 = x0 := by rw [IntKind.wrap_i64]; omega
  have hne' : ((32 : Nat) : Int) = 32 := rfl
  have HTH : Hid (∀ W, Below (w.alloc (.cells #[.int .i64 0, .int .i64 0, .int .i64 0, .int .i64 0, .int .i64 0, .int .i64 0, .int .i64 0, .int .i64 0, .int .i64 0, .int .i64 0, .slice none 0 0, .int .i64 0] 26)).heap.size (w.alloc (.cells #[.int .i64 0, .int .i64 0, .int .i64 0, .int .i64 0, .int .i64 0, .int .i64 0, .int .i64 0, .int .i64 0, .int .i64 0, .int .i64 0, .slice none 0 0, .int .i64 0] 26)) W → W.there w.heap.size 0 12) := Lib.hid (fun W hW => there_later hW rfl)
  have B1 : Hid (Below w.heap.size w (w.alloc (.cells #[.int .i64 0, .int .i64 0, .int .i64 0, .int .i64 0, .int .i64 0, .int .i64 0, .int .i64 0, .int .i64 0, .int .i64 0, .int .i64 0, .slice none 0 0, .int .i64 0] 26))) := Lib.hid ((Below.refl _ _).alloc (Nat.le_refl _) _)
  have HK : Hid (∀ W, Below w.heap.size w W → W.cell? ⟨g, off, none⟩ = some (.int .u8 x0) ∧ W.cell? ⟨g, off + 1, none⟩ = some (.int .u8 2) ∧ Hid (Below w.heap.size w W)) := Lib.hid (fun W h => ⟨cell_later h f0, cell_later h f1, Lib.hid h⟩)
  have BD : Hid (Below w.heap.size w (w.alloc (.cells #[.int .i64 0, .int .i64 0, .int .i64 0, .int .i64 0, .int .i64 0, .int .i64 0, .int .i64 0, .int .i64 0, .int .i64 0, .int .i64 0, .slice none 0 0, .int .i64 0] 26)).drew) := Lib.hid B1.out.drew
  have BA : Hid (∀ cs : Array Value, Below w.heap.size w ((w.alloc (.cells #[.int .i64 0, .int .i64 0, .int .i64 0, .int .i64 0, .int .i64 0, .int .i64 0, .int .i64 0, .int .i64 0, .int .i64 0, .int .i64 0, .slice none 0 0, .int .i64 0] 26)).alloc (.cells cs 26)).drew) := Lib.hid (fun cs => (B1.out.alloc B1.out.size _).drew)
  have NV : Hid (NodeVar (w.alloc (.cells #[.int .i64 0, .int .i64 0, .int .i64 0, .int .i64 0, .int .i64 0, .int .i64 0, .int .i64 0, .int .i64 0, .int .i64 0, .int .i64 0, .slice none 0 0, .int .i64 0] 26)) (w.heap.size + 1) (headV x0 2 n2 n4) (.slice none 0 0) ((w.alloc (.cells #[.int .i64 0, .int .i64 0, .int .i64 0, .int .i64 0, .int .i64 0, .int .i64 0, .int .i64 0, .int .i64 0, .int .i64 0, .int .i64 0, .slice none 0 0, .int .i64 0] 26)).alloc (.cells #[.int .i64 x0, .int .i64 2, .int .i64 n2, .int .i64 n4, .int .i64 0, .int .i64 0, .int .i64 0, .int .i64 0, .int .i64 0, .int .i64 0, .slice none 0 0, .int .i64 0] 26)).drew) := Lib.hid (by
    have h := (nodevar_new (w.alloc (.cells #[.int .i64 0, .int .i64 0, .int .i64 0, .int .i64 0, .int .i64 0, .int .i64 0, .int .i64 0, .int .i64 0, .int .i64 0, .int .i64 0, .slice none 0 0, .int .i64 0] 26)) x0 2 n2 n4).drew
    rw [World.size_alloc] at h
    exact h)
  clear hA hB hc f0 f1 h32
  go_enter Try.func5, Try.ntmps5
  go_upto_region 3 with fail
  go_cut [4] from 9 (fun s4 wx => s4 = .pointer (some ⟨w.heap.size + 1, 0, none⟩) ∧ Hid (NodeVar (w.alloc (.cells #[.int .i64 0, .int .i64 0, .int .i64 0, .int .i64 0, .int .i64 0, .int .i64 0, .int .i64 0, .int .i64 0, .int .i64 0, .int .i64 0, .slice none 0 0, .int .i64 0] 26)) (w.heap.size + 1) (headV x0 2 n2 n4) (.slice none 0 0) wx))
  case first =>
    go_region_held (fun W => W.cell? ⟨g, off, none⟩ = some (.int .u8 x0) ∧ W.cell? ⟨g, off + 1, none⟩ = some (.int .u8 2) ∧ Hid (Below w.heap.size w W)) (first | exact HK.out _ BD.out | exact HK.out _ (BA.out _))
      (first | (go_at_call 11; refine (CN.out _ (by first | exact BD.out | exact BA.out _) _ _ (by decide) (by decide) (by decide)).mono ?_; rintro e w' ⟨rfl, rfl⟩; first | rw [show leN zs (Int.toNat 2) (Int.toNat 2) = n2 from HN2.out] | rw [show leN zs (Int.toNat 4) (Int.toNat 2) = n4 from HN4.out]))
    all_goals
      go_wp2_with fail
      go_meet
      case rel => exact ⟨rfl, NV⟩
  case rest =>
    obtain ⟨rfl, HNV⟩ := hcut
    have q1 : wc.cell? ⟨w.heap.size + 1, 1, none⟩ = some (.int .i64 2) := HNV.out.2.1 1 (by decide) (by decide)
    have HRX : Hid ((rNode zs).x = rFil (rSlots zs)) := Lib.hid (by rw [hrn])
    have hval : ∀ sl, (rNode zs).val sl = .agg #[.int .i64 x0, .int .i64 2, .int .i64 n2, .int .i64 n4, .int .i64 0, .int .i64 0, .int .i64 0, .int .i64 0, .int .i64 0, .int .i64 0, sl, .int .i64 (leN zs 18 2)] := fun sl => by
      rw [hrn, ← HX0.out, ← HN2.out, ← HN4.out]; rfl
    obtain ⟨E, O, hEO⟩ : ∃ E O, nodeErr (rNode zs) = E ∧ nodeOut (rNode zs) = O := ⟨_, _, rfl, rfl⟩
    have H3 : Hid ((E = 2 ∧ rdecErr zs = 2 ∧ rdecN zs = noNode) ∨ (E = 0 ∧ ((str O).toList == (str zs).toList) = true ∧ rdecErr zs = 0 ∧ rdecN zs = rNode zs) ∨ (E = 0 ∧ ((str O).toList == (str zs).toList) = false ∧ rdecErr zs = 2 ∧ rdecN zs = noNode)) := Lib.hid (by
      obtain ⟨e1, e2⟩ := hEO
      unfold nodeErr at e1
      unfold nodeOut at e2
      rcases HRW.out with ⟨hs, hb, hg, he⟩ | ⟨hs, hb, hg, he⟩ | ⟨hs, hg, he⟩
      · rw [if_pos hs] at e1 e2
        right; left
        rw [hb] at e2
        exact ⟨e1.symm, by rw [← e2]; simp, he, hg⟩
      · rw [if_pos hs] at e1 e2
        right; right
        refine ⟨e1.symm, ?_, he, hg⟩
        rw [← e2, str_eq (node32_bytes _ HSM.out) HZ.out, decide_eq_false hb]
      · rw [hs, if_neg (by decide)] at e1
        exact Or.inl ⟨e1.symm, he, hg⟩)
    have cE := fun (W : World) {xo : Option Addr} {m xc : Nat} (hX : XIs W xo m (rNode zs).x) => renc_any (cap := xc) (rNode zs) W HSM.out hX
    rw [hEO.1, hEO.2] at cE
    have CE0 := Lib.hid cE
    clear cE hEO hrn HK BD BA NV
    have SC := st_cx
    go_wp2_with fail
    go_loopw [5] (fun iv wr => ∃ i : Int, iv = .int .i64 i ∧ (i = 6 ∨ i = 10 ∨ i = 14 ∨ i = 18) ∧ Hid (NewInv (w.alloc (.cells #[.int .i64 0, .int .i64 0, .int .i64 0, .int .i64 0, .int .i64 0, .int .i64 0, .int .i64 0, .int .i64 0, .int .i64 0, .int .i64 0, .slice none 0 0, .int .i64 0] 26)) (w.heap.size + 1) (w.heap.size + 2) (headV x0 2 n2 n4) (rFil ((rSlots zs).take (kOf i))) wr)) (fun iv _ => 18 - (intOf iv).toNat)
    case atStart => exact ⟨6, rfl, by decide, Lib.hid ⟨_, [], HNV.out, World.ownsRow_nil _ _ _ _, trivial⟩⟩
    case round =>
      obtain ⟨i, rfl, hi, HR⟩ := hrel
      have BR : Hid (Below w.heap.size w wr) := Lib.hid (by obtain ⟨vv, cs, h, _⟩ := HR.out; exact B1.out.trans (h.1.mono B1.out.size))
      rcases hi with rfl | rfl | rfl | rfl
      · by_cases hz : (⟨zs.getD 6 0, leN zs 7 2, zs.getD 9 0⟩ : PX) = noX
        · have hx : (rSlots zs)[0]? = some ⟨zs.getD 6 0, leN zs 7 2, zs.getD 9 0⟩ := rfl
          have st := rfil_step hx
          have sz := sub_zero HZ.out (i := 6) (by rw [H32.out]; decide)
          have BS : Bts wr (some ⟨g, off + 6, none⟩) 4 ((zs.drop 6).take 4) := bts_take (bts_drop (HB.out.later BR.out) (k := 6) (by decide)) (k := 4) (by decide)
          have s4 := str_bytes (cap := cap - 6) BS
          have e0 : (str [0, 0, 0, 0]).toList = [(0 : UInt8), 0, 0, 0] := by rw [Go.ByteArray.toList_eq, str_data]; rfl
          have se : ((str ((zs.drop 6).take 4)).toList == [(0 : UInt8), 0, 0, 0]) = decide (((zs.drop 6).take 4) = [0, 0, 0, 0]) := by rw [← e0]; exact str_eq (m := [0, 0, 0, 0]) BS.2.2.1 (by decide)
          clear e0
          rw [sz] at se
          have HBS := Lib.hid BS
          clear BS sz hx
          generalize str ((zs.drop 6).take 4) = sx at s4 se
          rw [decide_eq_true hz] at se
          rw [if_pos hz] at st
          have HST := Lib.hid st
          clear st hz
          go_wp2_with fail
          go_roundw
          case rel => exact ⟨10, by go_num, by decide, Lib.hid (by rw [show kOf 10 = 0 + 1 from rfl, HST.out]; exact HR.out)⟩
          case measure => simp [intOf]
        · have hx : (rSlots zs)[0]? = some ⟨zs.getD 6 0, leN zs 7 2, zs.getD 9 0⟩ := rfl
          have st := rfil_step hx
          have sz := sub_zero HZ.out (i := 6) (by rw [H32.out]; decide)
          have BS : Bts wr (some ⟨g, off + 6, none⟩) 4 ((zs.drop 6).take 4) := bts_take (bts_drop (HB.out.later BR.out) (k := 6) (by decide)) (k := 4) (by decide)
          have s4 := str_bytes (cap := cap - 6) BS
          have e0 : (str [0, 0, 0, 0]).toList = [(0 : UInt8), 0, 0, 0] := by rw [Go.ByteArray.toList_eq, str_data]; rfl
          have se : ((str ((zs.drop 6).take 4)).toList == [(0 : UInt8), 0, 0, 0]) = decide (((zs.drop 6).take 4) = [0, 0, 0, 0]) := by rw [← e0]; exact str_eq (m := [0, 0, 0, 0]) BS.2.2.1 (by decide)
          clear e0
          rw [sz] at se
          have HBS := Lib.hid BS
          clear BS sz hx
          generalize str ((zs.drop 6).take 4) = sx at s4 se
          rw [decide_eq_false hz] at se
          rw [if_neg hz] at st
          have HST := Lib.hid st
          clear st hz
          rw [show kOf 6 = 0 from rfl] at HR
          obtain ⟨vv, cs, hnv, hown, hcs⟩ := HR.out
          have c10 := hnv.2.2.1
          have f10 := hnv.2.2.2
          have HNVR := Lib.hid hnv
          have HO := Lib.hid hown
          have HCS := Lib.hid hcs
          have HSZ : Hid (w.heap.size + 2 ≤ wr.heap.size) := Lib.hid hnv.lt
          have sl := sub_leN (zs := zs) (i := 6) (by rw [H32.out]; decide)
          have CG : Hid (Calls Try.prog 12 #[.slice (some ⟨g, off + 6, none⟩) (4 : Nat) (cap - 6)] wr.drew fun e w' => ∃ p q, e = .returned (.agg #[.int .i64 (zs.getD 6 0), .complex .f64 p q]) ∧ FI p (leN zs 7 2) ∧ FI q (zs.getD 9 0) ∧ Below wr.drew.heap.size wr.drew w') := Lib.hid (by
            have h := GetExtent_any g (off + 6) (cap - 6) ((zs.drop 6).take 4) wr.drew (HBS.out.later (Below.refl _ _).drew)
            rw [sl.1, sl.2.1, sl.2.2] at h
            exact h)
          obtain ⟨ea, HEA⟩ : ∃ x, Hid (zs.getD 6 0 = x) := ⟨_, Lib.hid rfl⟩
          rw [HEA.out] at CG HST
          clear hnv hown hcs sl
          have wr1 : IntKind.i64.wrap 10 = 10 := by rw [IntKind.wrap_i64]; omega
          have hc1 : (10 : Int) ≤ (cap : Int) := by omega
          have hc2 : ¬ cap = 6 := by omega
          go_wp2_with fail
          have HL : Hid ((rFil ((rSlots zs).take 0)).length ≤ 3) := Lib.hid (Nat.le_trans (rfil_length _) (by rw [List.length_take]; exact Nat.le_trans (Nat.min_le_left _ _) (by decide)))
          go_region_law (first
            | (go_simp; go_at_call 12; refine CG.out.mono ?_; rintro e w3 ⟨p, q, rfl, hp, hq, hb⟩; have HP := Lib.hid (And.intro hp hq); have NV3 := Lib.hid (HNVR.out.drew.later hb); have c103 := NV3.out.2.2.1; have c103a := cell_later ((Below.refl _ _).alloc (Nat.le_refl _) (.cells #[.int .i64 ea, .complex .f64 p q] 40)) c103; have HO3 := Lib.hid (owns_below (owns_drew HO.out) hb); have HS3 := Lib.hid (Nat.le_trans HSZ.out hb.size); clear hp hq hb)
            | (refine step_append_ks (o := ⟨some 49, _, _, _, _, _⟩) elemExtent rfl (.tmp 41) (.tmp 48) rfl (w.heap.size + 2) _ vv cs rfl (HO3.out.alloc _) ⟨w3.heap.size, 0, none⟩ 1 1 [.int .i64 ea, .complex .f64 p q] rfl rfl (news_made w3 [.int .i64 ea, .complex .f64 p q] _) (by intro u hu; simp only [List.mem_cons, List.mem_nil_iff, or_false] at hu; rcases hu with rfl | rfl <;> rfl) (by have := HL.out; omega) (by have := HS3.out; simp; omega) ?_; intro v4 w4 hown4 hg4 hb4; obtain ⟨ao4, cp4, rfl⟩ := owns_shape hown4; have HO4 := Lib.hid hown4; have c104 := cell_under hb4 (cell_later ((Below.refl _ _).alloc (Nat.le_refl _) (.cells #[.int .i64 ea, .complex .f64 p q] 40)) c103) (by show w.heap.size + 1 < w.heap.size + 2; omega); have f104 := frozen_under hb4 (NodeVar.later NV3.out ((Below.refl _ _).alloc (Nat.le_refl _) (.cells #[.int .i64 ea, .complex .f64 p q] 40))).2.2.2 (by omega); have NV4 := Lib.hid ((NodeVar.later NV3.out ((Below.refl _ _).alloc (Nat.le_refl _) (.cells #[.int .i64 ea, .complex .f64 p q] 40))).under hb4 (by omega) (by simp)); clear hown4 hg4 hb4))
          all_goals
            go_wp2_with fail
            go_roundw
            case rel => exact ⟨10, by go_num, by decide, Lib.hid (by rw [show kOf 10 = 0 + 1 from rfl, HST.out]; exact ⟨_, _, NV4.out.setSl (by simp), by rw [List.length_append]; exact owns_setCell HO4.out (by omega), XCells.snoc (x := ⟨ea, _, _⟩) HCS.out ⟨p, q, rfl, HP.out.1, HP.out.2⟩⟩)⟩
            case measure => simp [intOf]
      · by_cases hz : (⟨zs.getD 10 0, leN zs 11 2, zs.getD 13 0⟩ : PX) = noX
        · have hx : (rSlots zs)[1]? = some ⟨zs.getD 10 0, leN zs 11 2, zs.getD 13 0⟩ := rfl
          have st := rfil_step hx
          have sz := sub_zero HZ.out (i := 10) (by rw [H32.out]; decide)
          have BS : Bts wr (some ⟨g, off + 10, none⟩) 4 ((zs.drop 10).take 4) := bts_take (bts_drop (HB.out.later BR.out) (k := 10) (by decide)) (k := 4) (by decide)
          have s4 := str_bytes (cap := cap - 10) BS
          have e0 : (str [0, 0, 0, 0]).toList = [(0 : UInt8), 0, 0, 0] := by rw [Go.ByteArray.toList_eq, str_data]; rfl
          have se : ((str ((zs.drop 10).take 4)).toList == [(0 : UInt8), 0, 0, 0]) = decide (((zs.drop 10).take 4) = [0, 0, 0, 0]) := by rw [← e0]; exact str_eq (m := [0, 0, 0, 0]) BS.2.2.1 (by decide)
          clear e0
          rw [sz] at se
          have HBS := Lib.hid BS
          clear BS sz hx
          generalize str ((zs.drop 10).take 4) = sx at s4 se
          rw [decide_eq_true hz] at se
          rw [if_pos hz] at st
          have HST := Lib.hid st
          clear st hz
          go_wp2_with fail
          go_roundw
          case rel => exact ⟨14, by go_num, by decide, Lib.hid (by rw [show kOf 14 = 1 + 1 from rfl, HST.out]; exact HR.out)⟩
          case measure => simp [intOf]
        · have hx : (rSlots zs)[1]? = some ⟨zs.getD 10 0, leN zs 11 2, zs.getD 13 0⟩ := rfl
          have st := rfil_step hx
          have sz := sub_zero HZ.out (i := 10) (by rw [H32.out]; decide)
          have BS : Bts wr (some ⟨g, off + 10, none⟩) 4 ((zs.drop 10).take 4) := bts_take (bts_drop (HB.out.later BR.out) (k := 10) (by decide)) (k := 4) (by decide)
          have s4 := str_bytes (cap := cap - 10) BS
          have e0 : (str [0, 0, 0, 0]).toList = [(0 : UInt8), 0, 0, 0] := by rw [Go.ByteArray.toList_eq, str_data]; rfl
          have se : ((str ((zs.drop 10).take 4)).toList == [(0 : UInt8), 0, 0, 0]) = decide (((zs.drop 10).take 4) = [0, 0, 0, 0]) := by rw [← e0]; exact str_eq (m := [0, 0, 0, 0]) BS.2.2.1 (by decide)
          clear e0
          rw [sz] at se
          have HBS := Lib.hid BS
          clear BS sz hx
          generalize str ((zs.drop 10).take 4) = sx at s4 se
          rw [decide_eq_false hz] at se
          rw [if_neg hz] at st
          have HST := Lib.hid st
          clear st hz
          rw [show kOf 10 = 1 from rfl] at HR
          obtain ⟨vv, cs, hnv, hown, hcs⟩ := HR.out
          have c10 := hnv.2.2.1
          have f10 := hnv.2.2.2
          have HNVR := Lib.hid hnv
          have HO := Lib.hid hown
          have HCS := Lib.hid hcs
          have HSZ : Hid (w.heap.size + 2 ≤ wr.heap.size) := Lib.hid hnv.lt
          have sl := sub_leN (zs := zs) (i := 10) (by rw [H32.out]; decide)
          have CG : Hid (Calls Try.prog 12 #[.slice (some ⟨g, off + 10, none⟩) (4 : Nat) (cap - 10)] wr.drew fun e w' => ∃ p q, e = .returned (.agg #[.int .i64 (zs.getD 10 0), .complex .f64 p q]) ∧ FI p (leN zs 11 2) ∧ FI q (zs.getD 13 0) ∧ Below wr.drew.heap.size wr.drew w') := Lib.hid (by
            have h := GetExtent_any g (off + 10) (cap - 10) ((zs.drop 10).take 4) wr.drew (HBS.out.later (Below.refl _ _).drew)
            rw [sl.1, sl.2.1, sl.2.2] at h
            exact h)
          obtain ⟨ea, HEA⟩ : ∃ x, Hid (zs.getD 10 0 = x) := ⟨_, Lib.hid rfl⟩
          rw [HEA.out] at CG HST
          clear hnv hown hcs sl
          have wr1 : IntKind.i64.wrap 14 = 14 := by rw [IntKind.wrap_i64]; omega
          have hc1 : (14 : Int) ≤ (cap : Int) := by omega
          have hc2 : ¬ cap = 10 := by omega
          go_wp2_with fail
          have HL : Hid ((rFil ((rSlots zs).take 1)).length ≤ 3) := Lib.hid (Nat.le_trans (rfil_length _) (by rw [List.length_take]; exact Nat.le_trans (Nat.min_le_left _ _) (by decide)))
          go_region_law (first
            | (go_simp; go_at_call 12; refine CG.out.mono ?_; rintro e w3 ⟨p, q, rfl, hp, hq, hb⟩; have HP := Lib.hid (And.intro hp hq); have NV3 := Lib.hid (HNVR.out.drew.later hb); have c103 := NV3.out.2.2.1; have c103a := cell_later ((Below.refl _ _).alloc (Nat.le_refl _) (.cells #[.int .i64 ea, .complex .f64 p q] 40)) c103; have HO3 := Lib.hid (owns_below (owns_drew HO.out) hb); have HS3 := Lib.hid (Nat.le_trans HSZ.out hb.size); clear hp hq hb)
            | (refine step_append_ks (o := ⟨some 49, _, _, _, _, _⟩) elemExtent rfl (.tmp 41) (.tmp 48) rfl (w.heap.size + 2) _ vv cs rfl (HO3.out.alloc _) ⟨w3.heap.size, 0, none⟩ 1 1 [.int .i64 ea, .complex .f64 p q] rfl rfl (news_made w3 [.int .i64 ea, .complex .f64 p q] _) (by intro u hu; simp only [List.mem_cons, List.mem_nil_iff, or_false] at hu; rcases hu with rfl | rfl <;> rfl) (by have := HL.out; omega) (by have := HS3.out; simp; omega) ?_; intro v4 w4 hown4 hg4 hb4; obtain ⟨ao4, cp4, rfl⟩ := owns_shape hown4; have HO4 := Lib.hid hown4; have c104 := cell_under hb4 (cell_later ((Below.refl _ _).alloc (Nat.le_refl _) (.cells #[.int .i64 ea, .complex .f64 p q] 40)) c103) (by show w.heap.size + 1 < w.heap.size + 2; omega); have f104 := frozen_under hb4 (NodeVar.later NV3.out ((Below.refl _ _).alloc (Nat.le_refl _) (.cells #[.int .i64 ea, .complex .f64 p q] 40))).2.2.2 (by omega); have NV4 := Lib.hid ((NodeVar.later NV3.out ((Below.refl _ _).alloc (Nat.le_refl _) (.cells #[.int .i64 ea, .complex .f64 p q] 40))).under hb4 (by omega) (by simp)); clear hown4 hg4 hb4))
          all_goals
            go_wp2_with fail
            go_roundw
            case rel => exact ⟨14, by go_num, by decide, Lib.hid (by rw [show kOf 14 = 1 + 1 from rfl, HST.out]; exact ⟨_, _, NV4.out.setSl (by simp), by rw [List.length_append]; exact owns_setCell HO4.out (by omega), XCells.snoc (x := ⟨ea, _, _⟩) HCS.out ⟨p, q, rfl, HP.out.1, HP.out.2⟩⟩)⟩
            case measure => simp [intOf]
      · by_cases hz : (⟨zs.getD 14 0, leN zs 15 2, zs.getD 17 0⟩ : PX) = noX
        · have hx : (rSlots zs)[2]? = some ⟨zs.getD 14 0, leN zs 15 2, zs.getD 17 0⟩ := rfl
          have st := rfil_step hx
          have sz := sub_zero HZ.out (i := 14) (by rw [H32.out]; decide)
          have BS : Bts wr (some ⟨g, off + 14, none⟩) 4 ((zs.drop 14).take 4) := bts_take (bts_drop (HB.out.later BR.out) (k := 14) (by decide)) (k := 4) (by decide)
          have s4 := str_bytes (cap := cap - 14) BS
          have e0 : (str [0, 0, 0, 0]).toList = [(0 : UInt8), 0, 0, 0] := by rw [Go.ByteArray.toList_eq, str_data]; rfl
          have se : ((str ((zs.drop 14).take 4)).toList == [(0 : UInt8), 0, 0, 0]) = decide (((zs.drop 14).take 4) = [0, 0, 0, 0]) := by rw [← e0]; exact str_eq (m := [0, 0, 0, 0]) BS.2.2.1 (by decide)
          clear e0
          rw [sz] at se
          have HBS := Lib.hid BS
          clear BS sz hx
          generalize str ((zs.drop 14).take 4) = sx at s4 se
          rw [decide_eq_true hz] at se
          rw [if_pos hz] at st
          have HST := Lib.hid st
          clear st hz
          go_wp2_with fail
          go_roundw
          case rel => exact ⟨18, by go_num, by decide, Lib.hid (by rw [show kOf 18 = 2 + 1 from rfl, HST.out]; exact HR.out)⟩
          case measure => simp [intOf]
        · have hx : (rSlots zs)[2]? = some ⟨zs.getD 14 0, leN zs 15 2, zs.getD 17 0⟩ := rfl
          have st := rfil_step hx
          have sz := sub_zero HZ.out (i := 14) (by rw [H32.out]; decide)
          have BS : Bts wr (some ⟨g, off + 14, none⟩) 4 ((zs.drop 14).take 4) := bts_take (bts_drop (HB.out.later BR.out) (k := 14) (by decide)) (k := 4) (by decide)
          have s4 := str_bytes (cap := cap - 14) BS
          have e0 : (str [0, 0, 0, 0]).toList = [(0 : UInt8), 0, 0, 0] := by rw [Go.ByteArray.toList_eq, str_data]; rfl
          have se : ((str ((zs.drop 14).take 4)).toList == [(0 : UInt8), 0, 0, 0]) = decide (((zs.drop 14).take 4) = [0, 0, 0, 0]) := by rw [← e0]; exact str_eq (m := [0, 0, 0, 0]) BS.2.2.1 (by decide)
          clear e0
          rw [sz] at se
          have HBS := Lib.hid BS
          clear BS sz hx
          generalize str ((zs.drop 14).take 4) = sx at s4 se
          rw [decide_eq_false hz] at se
          rw [if_neg hz] at st
          have HST := Lib.hid st
          clear st hz
          rw [show kOf 14 = 2 from rfl] at HR
          obtain ⟨vv, cs, hnv, hown, hcs⟩ := HR.out
          have c10 := hnv.2.2.1
          have f10 := hnv.2.2.2
          have HNVR := Lib.hid hnv
          have HO := Lib.hid hown
          have HCS := Lib.hid hcs
          have HSZ : Hid (w.heap.size + 2 ≤ wr.heap.size) := Lib.hid hnv.lt
          have sl := sub_leN (zs := zs) (i := 14) (by rw [H32.out]; decide)
          have CG : Hid (Calls Try.prog 12 #[.slice (some ⟨g, off + 14, none⟩) (4 : Nat) (cap - 14)] wr.drew fun e w' => ∃ p q, e = .returned (.agg #[.int .i64 (zs.getD 14 0), .complex .f64 p q]) ∧ FI p (leN zs 15 2) ∧ FI q (zs.getD 17 0) ∧ Below wr.drew.heap.size wr.drew w') := Lib.hid (by
            have h := GetExtent_any g (off + 14) (cap - 14) ((zs.drop 14).take 4) wr.drew (HBS.out.later (Below.refl _ _).drew)
            rw [sl.1, sl.2.1, sl.2.2] at h
            exact h)
          obtain ⟨ea, HEA⟩ : ∃ x, Hid (zs.getD 14 0 = x) := ⟨_, Lib.hid rfl⟩
          rw [HEA.out] at CG HST
          clear hnv hown hcs sl
          have wr1 : IntKind.i64.wrap 18 = 18 := by rw [IntKind.wrap_i64]; omega
          have hc1 : (18 : Int) ≤ (cap : Int) := by omega
          have hc2 : ¬ cap = 14 := by omega
          go_wp2_with fail
          have HL : Hid ((rFil ((rSlots zs).take 2)).length ≤ 3) := Lib.hid (Nat.le_trans (rfil_length _) (by rw [List.length_take]; exact Nat.le_trans (Nat.min_le_left _ _) (by decide)))
          go_region_law (first
            | (go_simp; go_at_call 12; refine CG.out.mono ?_; rintro e w3 ⟨p, q, rfl, hp, hq, hb⟩; have HP := Lib.hid (And.intro hp hq); have NV3 := Lib.hid (HNVR.out.drew.later hb); have c103 := NV3.out.2.2.1; have c103a := cell_later ((Below.refl _ _).alloc (Nat.le_refl _) (.cells #[.int .i64 ea, .complex .f64 p q] 40)) c103; have HO3 := Lib.hid (owns_below (owns_drew HO.out) hb); have HS3 := Lib.hid (Nat.le_trans HSZ.out hb.size); clear hp hq hb)
            | (refine step_append_ks (o := ⟨some 49, _, _, _, _, _⟩) elemExtent rfl (.tmp 41) (.tmp 48) rfl (w.heap.size + 2) _ vv cs rfl (HO3.out.alloc _) ⟨w3.heap.size, 0, none⟩ 1 1 [.int .i64 ea, .complex .f64 p q] rfl rfl (news_made w3 [.int .i64 ea, .complex .f64 p q] _) (by intro u hu; simp only [List.mem_cons, List.mem_nil_iff, or_false] at hu; rcases hu with rfl | rfl <;> rfl) (by have := HL.out; omega) (by have := HS3.out; simp; omega) ?_; intro v4 w4 hown4 hg4 hb4; obtain ⟨ao4, cp4, rfl⟩ := owns_shape hown4; have HO4 := Lib.hid hown4; have c104 := cell_under hb4 (cell_later ((Below.refl _ _).alloc (Nat.le_refl _) (.cells #[.int .i64 ea, .complex .f64 p q] 40)) c103) (by show w.heap.size + 1 < w.heap.size + 2; omega); have f104 := frozen_under hb4 (NodeVar.later NV3.out ((Below.refl _ _).alloc (Nat.le_refl _) (.cells #[.int .i64 ea, .complex .f64 p q] 40))).2.2.2 (by omega); have NV4 := Lib.hid ((NodeVar.later NV3.out ((Below.refl _ _).alloc (Nat.le_refl _) (.cells #[.int .i64 ea, .complex .f64 p q] 40))).under hb4 (by omega) (by simp)); clear hown4 hg4 hb4))
          all_goals
            go_wp2_with fail
            go_roundw
            case rel => exact ⟨18, by go_num, by decide, Lib.hid (by rw [show kOf 18 = 2 + 1 from rfl, HST.out]; exact ⟨_, _, NV4.out.setSl (by simp), by rw [List.length_append]; exact owns_setCell HO4.out (by omega), XCells.snoc (x := ⟨ea, _, _⟩) HCS.out ⟨p, q, rfl, HP.out.1, HP.out.2⟩⟩)⟩
            case measure => simp [intOf]
      · obtain ⟨vv, cs, hnv, hown, hcs⟩ := HR.out
        rw [show (rSlots zs).take (kOf 18) = rSlots zs from rfl] at hown hcs
        have hl : (rFil (rSlots zs)).length ≤ 3 := rfil_length _
        obtain ⟨xo, xc, rfl, hX, hxc, hxb⟩ := XIs.of_owns hown hcs rfl hl
        obtain ⟨xm, HXM⟩ : ∃ m, Hid ((rFil (rSlots zs)).length = m) := ⟨_, Lib.hid rfl⟩
        rw [HXM.out] at hX hxc hnv
        obtain ⟨c, DC⟩ : ∃ d, leN zs 18 2 = d := ⟨_, rfl⟩
        rw [DC] at hval
        have HRN := Lib.hid (hval (.slice xo xm xc))
        have HDC := Lib.hid DC
        have HX := Lib.hid hX
        have HXB := Lib.hid hxb
        have k11 : wr.cell? ⟨w.heap.size + 1, 11, none⟩ = some (.int .i64 0) := hnv.2.1 11 (by decide) (by decide)
        have fz := hnv.2.2.2
        have NQ := Lib.hid (hnv.set (by simp) (k := 11) (by decide) (by decide) c)
        have BQ := Lib.hid (B1.out.trans (NQ.out.1.mono B1.out.size))
        have HXQ : Hid (XIs (wr.setCell ⟨w.heap.size + 1, 11, none⟩ (.int .i64 c)) xo xm (rFil (rSlots zs))) := Lib.hid (HX.out.setCell (fun b o s h => by have := HXB.out b o s h; omega))
        have c0 : (wr.setCell ⟨w.heap.size + 1, 11, none⟩ (.int .i64 c)).cell? ⟨w.heap.size + 1, 0, none⟩ = some (.int .i64 x0) := NQ.out.2.1 0 (by decide) (by decide)
        have c1 : (wr.setCell ⟨w.heap.size + 1, 11, none⟩ (.int .i64 c)).cell? ⟨w.heap.size + 1, 1, none⟩ = some (.int .i64 2) := NQ.out.2.1 1 (by decide) (by decide)
        have c2 : (wr.setCell ⟨w.heap.size + 1, 11, none⟩ (.int .i64 c)).cell? ⟨w.heap.size + 1, 2, none⟩ = some (.int .i64 n2) := NQ.out.2.1 2 (by decide) (by decide)
        have c3 : (wr.setCell ⟨w.heap.size + 1, 11, none⟩ (.int .i64 c)).cell? ⟨w.heap.size + 1, 3, none⟩ = some (.int .i64 n4) := NQ.out.2.1 3 (by decide) (by decide)
        have c4 : (wr.setCell ⟨w.heap.size + 1, 11, none⟩ (.int .i64 c)).cell? ⟨w.heap.size + 1, 4, none⟩ = some (.int .i64 0) := NQ.out.2.1 4 (by decide) (by decide)
        have c5 : (wr.setCell ⟨w.heap.size + 1, 11, none⟩ (.int .i64 c)).cell? ⟨w.heap.size + 1, 5, none⟩ = some (.int .i64 0) := NQ.out.2.1 5 (by decide) (by decide)
        have c6 : (wr.setCell ⟨w.heap.size + 1, 11, none⟩ (.int .i64 c)).cell? ⟨w.heap.size + 1, 6, none⟩ = some (.int .i64 0) := NQ.out.2.1 6 (by decide) (by decide)
        have c7 : (wr.setCell ⟨w.heap.size + 1, 11, none⟩ (.int .i64 c)).cell? ⟨w.heap.size + 1, 7, none⟩ = some (.int .i64 0) := NQ.out.2.1 7 (by decide) (by decide)
        have c8 : (wr.setCell ⟨w.heap.size + 1, 11, none⟩ (.int .i64 c)).cell? ⟨w.heap.size + 1, 8, none⟩ = some (.int .i64 0) := NQ.out.2.1 8 (by decide) (by decide)
        have c9 : (wr.setCell ⟨w.heap.size + 1, 11, none⟩ (.int .i64 c)).cell? ⟨w.heap.size + 1, 9, none⟩ = some (.int .i64 0) := NQ.out.2.1 9 (by decide) (by decide)
        have c10 := NQ.out.2.2.1
        have c11 : (wr.setCell ⟨w.heap.size + 1, 11, none⟩ (.int .i64 c)).cell? ⟨w.heap.size + 1, 11, none⟩ = some (.int .i64 c) := NQ.out.2.1 11 (by decide) (by decide)
        have CE : Hid (∀ W, Below (wr.setCell ⟨w.heap.size + 1, 11, none⟩ (.int .i64 c)).heap.size (wr.setCell ⟨w.heap.size + 1, 11, none⟩ (.int .i64 c)) W → Calls Try.prog 13 #[.agg #[.int .i64 x0, .int .i64 2, .int .i64 n2, .int .i64 n4, .int .i64 0, .int .i64 0, .int .i64 0, .int .i64 0, .int .i64 0, .int .i64 0, .slice xo xm xc, .int .i64 c]] W (Handed W.heap.size W O E)) := Lib.hid (fun W hW => by
          have h := CE0.out W (xo := xo) (m := xm) (xc := xc) (by rw [HRX.out]; exact HXQ.out.later hW)
          rw [HRN.out] at h
          exact h)
        clear DC hval CE0 hnv hown hcs hX hxb
        rcases H3.out with ⟨h1, h2, h3⟩ | ⟨h1, h4, h2, h3⟩ | ⟨h1, h4, h2, h3⟩
        · subst h1
          have G2 := Lib.hid h2
          have G3 := Lib.hid h3
          clear h2 h3
          go_wp2_with (first
            | (go_at_call 11; refine (CN.out _ (by exact BR.out) _ _ (by decide) (by decide) (by decide)).mono ?_; rintro e w' ⟨rfl, rfl⟩; rw [show leN zs (Int.toNat 18) (Int.toNat 2) = c from HDC.out])
            | (go_at_call 13; refine (CE.out _ (by first | exact Below.refl _ _ | exact Below.refl _ _)).mono ?_; rintro e w5 ⟨v5, rfl, hf5, hb5⟩; have k1 := fresh_str hf5; have k2 := str_bytes (cap := cap) (HB.out.later (BQ.out.trans (hb5.mono BQ.out.size))); have T5 := Lib.hid (HTH.out w5 (NQ.out.1.trans (hb5.mono NQ.out.1.size))); have B5 := Lib.hid (BQ.out.trans (hb5.mono BQ.out.size)); have HB5 := Lib.hid hb5; have u0 := cell_later hb5 c0; have u1 := cell_later hb5 c1; have u2 := cell_later hb5 c2; have u3 := cell_later hb5 c3; have u4 := cell_later hb5 c4; have u5 := cell_later hb5 c5; have u6 := cell_later hb5 c6; have u7 := cell_later hb5 c7; have u8 := cell_later hb5 c8; have u9 := cell_later hb5 c9; have u10 := cell_later hb5 c10; have u11 := cell_later hb5 c11; clear hf5 hb5)
            | (refine wpList_store_mid rfl 26 (.tmp 2) (.tmp 86) rfl w.heap.size 0 (List.toArray [.int .i64 0, .int .i64 0, .int .i64 0, .int .i64 0, .int .i64 0, .int .i64 0, .int .i64 0, .int .i64 0, .int .i64 0, .int .i64 0, .slice none 0 0, .int .i64 0]) rfl rfl T5.out (by kernel_rfl) (all_oneCell_toArray (by intro v hv; simp only [List.mem_cons, List.mem_nil_iff, or_false] at hv; rcases hv with rfl | rfl | rfl | rfl | rfl | rfl | rfl | rfl | rfl | rfl | rfl | rfl <;> rfl)) ?_; have RG := World.rangeAt_setCells_same w5 w.heap.size 0 [.int .i64 0, .int .i64 0, .int .i64 0, .int .i64 0, .int .i64 0, .int .i64 0, .int .i64 0, .int .i64 0, .int .i64 0, .int .i64 0, .slice none 0 0, .int .i64 0] T5.out; have BF := Lib.hid (below_setCells (B := w.heap.size) (g := w.heap.size) B5.out (Nat.le_refl _) [.int .i64 0, .int .i64 0, .int .i64 0, .int .i64 0, .int .i64 0, .int .i64 0, .int .i64 0, .int .i64 0, .int .i64 0, .int .i64 0, .slice none 0 0, .int .i64 0] 0); generalize w5.setCells w.heap.size 0 [.int .i64 0, .int .i64 0, .int .i64 0, .int .i64 0, .int .i64 0, .int .i64 0, .int .i64 0, .int .i64 0, .int .i64 0, .int .i64 0, .slice none 0 0, .int .i64 0] = W9 at *; have y0 := RG 0 _ rfl; have y1 := RG 1 _ rfl; have y2 := RG 2 _ rfl; have y3 := RG 3 _ rfl; have y4 := RG 4 _ rfl; have y5 := RG 5 _ rfl; have y6 := RG 6 _ rfl; have y7 := RG 7 _ rfl; have y8 := RG 8 _ rfl; have y9 := RG 9 _ rfl; have y10 := RG 10 _ rfl; have y11 := RG 11 _ rfl; clear RG))
          refine bodyPost_ret (v := .tuple #[(rdecN zs).val (.slice none 0 0), .int .i64 (rdecErr zs)]) ?_ rfl ⟨none, 0, 0, rfl, by rw [G3.out]; exact XIs.nil _, BF.out⟩
          rw [G2.out, G3.out, results_cell_tmp rfl]
          unfold noNode PNode.val
          go_simp
          try rfl
        · subst h1
          have G2 := Lib.hid h2
          have G3 := Lib.hid h3
          clear h2 h3
          go_wp2_with (first
            | (go_at_call 11; refine (CN.out _ (by exact BR.out) _ _ (by decide) (by decide) (by decide)).mono ?_; rintro e w' ⟨rfl, rfl⟩; rw [show leN zs (Int.toNat 18) (Int.toNat 2) = c from HDC.out])
            | (go_at_call 13; refine (CE.out _ (by first | exact Below.refl _ _ | exact Below.refl _ _)).mono ?_; rintro e w5 ⟨v5, rfl, hf5, hb5⟩; have k1 := fresh_str hf5; have k2 := str_bytes (cap := cap) (HB.out.later (BQ.out.trans (hb5.mono BQ.out.size))); have T5 := Lib.hid (HTH.out w5 (NQ.out.1.trans (hb5.mono NQ.out.1.size))); have B5 := Lib.hid (BQ.out.trans (hb5.mono BQ.out.size)); have HB5 := Lib.hid hb5; have u0 := cell_later hb5 c0; have u1 := cell_later hb5 c1; have u2 := cell_later hb5 c2; have u3 := cell_later hb5 c3; have u4 := cell_later hb5 c4; have u5 := cell_later hb5 c5; have u6 := cell_later hb5 c6; have u7 := cell_later hb5 c7; have u8 := cell_later hb5 c8; have u9 := cell_later hb5 c9; have u10 := cell_later hb5 c10; have u11 := cell_later hb5 c11; clear hf5 hb5)
            | (refine wpList_store_mid rfl 26 (.tmp 2) (.tmp 87) rfl w.heap.size 0 (List.toArray [.int .i64 x0, .int .i64 2, .int .i64 n2, .int .i64 n4, .int .i64 0, .int .i64 0, .int .i64 0, .int .i64 0, .int .i64 0, .int .i64 0, .slice xo xm xc, .int .i64 c]) rfl rfl T5.out (by kernel_rfl) (all_oneCell_toArray (by intro v hv; simp only [List.mem_cons, List.mem_nil_iff, or_false] at hv; rcases hv with rfl | rfl | rfl | rfl | rfl | rfl | rfl | rfl | rfl | rfl | rfl | rfl <;> rfl)) ?_; have RG := World.rangeAt_setCells_same w5 w.heap.size 0 [.int .i64 x0, .int .i64 2, .int .i64 n2, .int .i64 n4, .int .i64 0, .int .i64 0, .int .i64 0, .int .i64 0, .int .i64 0, .int .i64 0, .slice xo xm xc, .int .i64 c] T5.out; have BF := Lib.hid (below_setCells (B := w.heap.size) (g := w.heap.size) B5.out (Nat.le_refl _) [.int .i64 x0, .int .i64 2, .int .i64 n2, .int .i64 n4, .int .i64 0, .int .i64 0, .int .i64 0, .int .i64 0, .int .i64 0, .int .i64 0, .slice xo xm xc, .int .i64 c] 0); have XF := Lib.hid ((HXQ.out.later HB5.out).setCells (g := w.heap.size) (fun b o s h => by have := HXB.out b o s h; omega) [.int .i64 x0, .int .i64 2, .int .i64 n2, .int .i64 n4, .int .i64 0, .int .i64 0, .int .i64 0, .int .i64 0, .int .i64 0, .int .i64 0, .slice xo xm xc, .int .i64 c] 0 _); generalize w5.setCells w.heap.size 0 [.int .i64 x0, .int .i64 2, .int .i64 n2, .int .i64 n4, .int .i64 0, .int .i64 0, .int .i64 0, .int .i64 0, .int .i64 0, .int .i64 0, .slice xo xm xc, .int .i64 c] = W9 at *; have y0 := RG 0 _ rfl; have y1 := RG 1 _ rfl; have y2 := RG 2 _ rfl; have y3 := RG 3 _ rfl; have y4 := RG 4 _ rfl; have y5 := RG 5 _ rfl; have y6 := RG 6 _ rfl; have y7 := RG 7 _ rfl; have y8 := RG 8 _ rfl; have y9 := RG 9 _ rfl; have y10 := RG 10 _ rfl; have y11 := RG 11 _ rfl; clear RG))
          refine bodyPost_ret (v := .tuple #[(rdecN zs).val (.slice xo xm xc), .int .i64 (rdecErr zs)]) ?_ rfl ⟨_, _, _, rfl, by rw [G3.out, HRX.out]; exact XF.out, BF.out⟩
          rw [G2.out, G3.out, HRN.out, results_cell_tmp rfl]
          go_simp
          try rfl
        · subst h1
          have G2 := Lib.hid h2
          have G3 := Lib.hid h3
          clear h2 h3
          go_wp2_with (first
            | (go_at_call 11; refine (CN.out _ (by exact BR.out) _ _ (by decide) (by decide) (by decide)).mono ?_; rintro e w' ⟨rfl, rfl⟩; rw [show leN zs (Int.toNat 18) (Int.toNat 2) = c from HDC.out])
            | (go_at_call 13; refine (CE.out _ (by first | exact Below.refl _ _ | exact Below.refl _ _)).mono ?_; rintro e w5 ⟨v5, rfl, hf5, hb5⟩; have k1 := fresh_str hf5; have k2 := str_bytes (cap := cap) (HB.out.later (BQ.out.trans (hb5.mono BQ.out.size))); have T5 := Lib.hid (HTH.out w5 (NQ.out.1.trans (hb5.mono NQ.out.1.size))); have B5 := Lib.hid (BQ.out.trans (hb5.mono BQ.out.size)); have HB5 := Lib.hid hb5; have u0 := cell_later hb5 c0; have u1 := cell_later hb5 c1; have u2 := cell_later hb5 c2; have u3 := cell_later hb5 c3; have u4 := cell_later hb5 c4; have u5 := cell_later hb5 c5; have u6 := cell_later hb5 c6; have u7 := cell_later hb5 c7; have u8 := cell_later hb5 c8; have u9 := cell_later hb5 c9; have u10 := cell_later hb5 c10; have u11 := cell_later hb5 c11; clear hf5 hb5)
            | (refine wpList_store_mid rfl 26 (.tmp 2) (.tmp 86) rfl w.heap.size 0 (List.toArray [.int .i64 0, .int .i64 0, .int .i64 0, .int .i64 0, .int .i64 0, .int .i64 0, .int .i64 0, .int .i64 0, .int .i64 0, .int .i64 0, .slice none 0 0, .int .i64 0]) rfl rfl T5.out (by kernel_rfl) (all_oneCell_toArray (by intro v hv; simp only [List.mem_cons, List.mem_nil_iff, or_false] at hv; rcases hv with rfl | rfl | rfl | rfl | rfl | rfl | rfl | rfl | rfl | rfl | rfl | rfl <;> rfl)) ?_; have RG := World.rangeAt_setCells_same w5 w.heap.size 0 [.int .i64 0, .int .i64 0, .int .i64 0, .int .i64 0, .int .i64 0, .int .i64 0, .int .i64 0, .int .i64 0, .int .i64 0, .int .i64 0, .slice none 0 0, .int .i64 0] T5.out; have BF := Lib.hid (below_setCells (B := w.heap.size) (g := w.heap.size) B5.out (Nat.le_refl _) [.int .i64 0, .int .i64 0, .int .i64 0, .int .i64 0, .int .i64 0, .int .i64 0, .int .i64 0, .int .i64 0, .int .i64 0, .int .i64 0, .slice none 0 0, .int .i64 0] 0); generalize w5.setCells w.heap.size 0 [.int .i64 0, .int .i64 0, .int .i64 0, .int .i64 0, .int .i64 0, .int .i64 0, .int .i64 0, .int .i64 0, .int .i64 0, .int .i64 0, .slice none 0 0, .int .i64 0] = W9 at *; have y0 := RG 0 _ rfl; have y1 := RG 1 _ rfl; have y2 := RG 2 _ rfl; have y3 := RG 3 _ rfl; have y4 := RG 4 _ rfl; have y5 := RG 5 _ rfl; have y6 := RG 6 _ rfl; have y7 := RG 7 _ rfl; have y8 := RG 8 _ rfl; have y9 := RG 9 _ rfl; have y10 := RG 10 _ rfl; have y11 := RG 11 _ rfl; clear RG))
          refine bodyPost_ret (v := .tuple #[(rdecN zs).val (.slice none 0 0), .int .i64 (rdecErr zs)]) ?_ rfl ⟨none, 0, 0, rfl, by rw [G3.out]; exact XIs.nil _, BF.out⟩
          rw [G2.out, G3.out, results_cell_tmp rfl]
          unfold noNode PNode.val
          go_simp
          try rfl

theorem rdec_any (ao : Option Addr) (len cap : Nat) (zs : List Int) (w : World) (hA : Arg w ao len cap zs) :
    Calls Try.prog 5 #[.slice ao len cap] w fun e w' => ∃ xo m xc, e = .returned (.tuple #[(rdecN zs).val (.slice xo m xc), .int .i64 (rdecErr zs)]) ∧ XIs w' xo m (rdecN zs).x ∧ Below w.heap.size w w' := by
  by_cases h32 : len = 32
  · subst h32
    by_cases hf : zs.getD 1 0 = 2
    · exact rdec_new ao cap zs w hA hf
    · exact rdec_old ao cap zs w hA hf
  · have hl : zs.length ≠ 32 := by rw [hA.1.1]; exact h32
    have hn : isNodeR zs = false := by unfold isNodeR; rw [decide_eq_false hl]; rfl
    have h1 : rdecN zs = noNode := by unfold rdecN; rw [hn]; rfl
    have h2 : rdecErr zs = 2 := by unfold rdecErr; rw [hn]; rfl
    rw [h1, h2]
    exact (rdec_no ao len cap zs w hA h32).mono fun e w' h => ⟨none, 0, 0, h.1, XIs.nil _, h.2⟩

end Go.Proofs.Ytojfhhmjoledjaa
