/-
  Proved here: of transactions that were written one behind the other, those are found that are whole, wherever the log is cut; of a log that answers as the document says. No other conditions.
-/
import Derived.Test.YtpmggbdmoopkfaaLgWh
import Derived.Test.YtpmggbdmoopkfaaLogLand
import Derived.WalkKit
namespace Go.Proofs.Ytpmggbdmoopkfaa.logWhole
open Go.ChangeShapes Go.WideShapes Go.ChangeAt Go.RowKit
open Go.ChangeMaps (open_string shut_string)
set_option linter.unusedVariables false
set_option linter.unusedSimpArgs false

theorem snocZ (k : Nat) : List.replicate k zero64 ++ [zero64] = List.replicate (k + 1) zero64 := by rw [List.replicate_succ']

/-- How many blocks each of the first writes. -/
def rOf (zs : List Int) (i : Nat) : List Nat := (zs.take i).map fun z => (z % 5).toNat + 1
theorem rOf_succ {zs : List Int} {i : Nat} {z : Int} (h : zs[i]? = some z) : rOf zs (i + 1) = rOf zs i ++ [(z % 5).toNat + 1] := by
  unfold rOf
  rw [List.take_add_one, h, List.map_append]
  rfl
theorem rOf_length {zs : List Int} {i : Nat} (h : i ≤ zs.length) : (rOf zs i).length = i := by unfold rOf; rw [List.length_map, List.length_take]; omega
theorem rOf_small (zs : List Int) (i : Nat) : ∀ n ∈ rOf zs i, 1 ≤ n ∧ n ≤ 5 := by
  intro n hn
  unfold rOf at hn
  obtain ⟨z, _, rfl⟩ := List.mem_map.1 hn
  omega

/-- What holds ahead of each transaction. -/
def WhI (w : World) (g he A : Nat) (S fill : Int) (cut : Nat) (r : List Nat) (wr : World) : Prop :=
  Below w.heap.size w wr ∧ (wr.cell? ⟨w.heap.size, 0, none⟩ = some (.int .i64 (A : Int)) ∧ wr.cell? ⟨w.heap.size, 1, none⟩ = some (.int .i64 S)) ∧
    (wr.cell? ⟨he, 0, none⟩ = some (.int .i64 (((A + placeN cut 0 r) % 40 : Nat) : Int)) ∧ wr.cell? ⟨he, 1, none⟩ = some (.int .i64 (S + (wholeN cut 0 r : Int))) ∧ ∀ j, wr.frozen? ⟨he, j, none⟩ = false) ∧ ∃ bs, RingW g he wr bs ∧ LaidL bs A cut (flatW S fill 0 r)

/-- The numbers of a transaction's blocks, so far. -/
def toK (i k : Nat) : List Int := (List.range k).map fun (j : Nat) => 60 + 7 * (i : Int) + (j : Int)
theorem toK_succ (i k : Nat) : toK i (k + 1) = toK i k ++ [60 + 7 * (i : Int) + (k : Int)] := by
  unfold toK
  rw [List.range_succ, List.map_append]
  rfl
theorem toK_length (i k : Nat) : (toK i k).length = k := by unfold toK; rw [List.length_map, List.length_range]

set_option maxRecDepth 100000 in
set_option maxHeartbeats 25600000 in
theorem walk (a0 : Int) (a1 : Int) (a2 : Option Addr) (len2 cap2 : Nat) (z2 : List Int) (a3 : Int) (a4 : Int) (w : World) (w0 : (Lit.int .u8 a0).wf = true) (w1 : (Lit.int .u16 a1).wf = true) (w2 : IsRow .u8 w a2 len2 cap2 z2) (rch2 : cap2 ≤ 140737488351232) (w3 : (Lit.int .u8 a3).wf = true) (w4 : (Lit.int .u8 a4).wf = true) :
    Calls Try.prog 7 #[.int .u8 a0, .int .u16 a1, .slice a2 len2 cap2, .int .u8 a3, .int .u8 a4] w fun e w' => e = .returned (.bool true) ∧ Below w.heap.size w w' := by
  have b0 := wf_u8 w0
  have b1 := wf_u16 w1
  have b3 := wf_u8 w3
  have b4 := wf_u8 w4
  have HZ2 := Lib.hid (w2.arg rch2)
  clear w0 w1 w2 w3 w4 rch2
  generalize z2.take len2 = zs at *
  obtain ⟨A, hA⟩ : ∃ A : Nat, Int.tmod a0 40 = (A : Int) := ⟨(Int.tmod a0 40).toNat, by rw [Int.tmod_eq_emod_of_nonneg b0.1]; omega⟩
  obtain ⟨C, hC⟩ : ∃ C : Nat, Int.tmod a3 41 = (C : Int) := ⟨(Int.tmod a3 41).toNat, by rw [Int.tmod_eq_emod_of_nonneg b3.1]; omega⟩
  have HA40 : Hid (A < 40) := Lib.hid (by rw [Int.tmod_eq_emod_of_nonneg b0.1] at hA; omega)
  have HC40 : Hid (C ≤ 40) := Lib.hid (by rw [Int.tmod_eq_emod_of_nonneg b3.1] at hC; omega)
  have HF := Lib.hid b4
  have HS := Lib.hid b1
  have iA : (A : Int) < 40 := by have := HA40.out; omega
  have iA0 : (0 : Int) ≤ (A : Int) := by omega
  have iC : (C : Int) ≤ 40 := by have := HC40.out; omega
  have iC0 : (0 : Int) ≤ (C : Int) := by omega
  have iS0 : (0 : Int) ≤ a1 := b1.1
  have iS1 : a1 < 65536 := b1.2
  clear b0 b1 b3 b4
  obtain ⟨w5, hw5⟩ : ∃ w5, w.alloc (.cells #[.int .i64 (A : Int), .int .i64 (a1 + 1)] 40) = w5 := ⟨_, rfl⟩
  have B5 : Hid (Below w.heap.size w w5) := Lib.hid (by rw [← hw5]; exact (Below.refl _ _).alloc (Nat.le_refl _) _)
  have h0 : w5.cell? ⟨w.heap.size, 0, none⟩ = some (.int .i64 (A : Int)) := by rw [← hw5, World.cell?_alloc_new]; rfl
  have h1 : w5.cell? ⟨w.heap.size, 1, none⟩ = some (.int .i64 (a1 + 1)) := by rw [← hw5, World.cell?_alloc_new]; rfl
  have BO0 : Hid (BOwn w5.heap.size w5.heap.size (w5.alloc (.cells #[] 25)) (.slice (some ⟨w5.heap.size, 0, none⟩) 0 0) (List.replicate 0 zero64)) := Lib.hid ⟨[], World.ownsRow_made (base := w5.heap.size) (e := 25) (size := 1) w5 #[] 0 (Nat.le_refl _) (by decide) rfl, fun j l h => by simp at h⟩
  have B50 : Hid (Below w5.heap.size w5 (w5.alloc (.cells #[] 25))) := Lib.hid ((Below.refl _ _).alloc (Nat.le_refl _) _)
  go_enter Try.func7, Try.ntmps7
  go_wp2_with fail
  go_loopw [12, 13] (fun bv iv wr => ∃ i : Nat, iv = .int .i64 (i : Int) ∧ i ≤ 40 ∧ Hid (BOwn w5.heap.size w5.heap.size wr bv (List.replicate i zero64)) ∧ Hid (Below w5.heap.size w5 wr)) (fun _ iv _ => 40 - (intOf iv).toNat)
  case atStart => exact ⟨0, rfl, by decide, BO0, B50⟩
  case round =>
    obtain ⟨i, rfl, hi, HO, HB⟩ := hrel
    by_cases hlt : i < 40
    · have hmk := run_make_bytes wr 64 (by decide)
      rw [show ((64 : Nat) : Int) = 64 from rfl] at hmk
      have HAR := Lib.hid (made_arg wr 64 (by decide))
      have i1 : (i : Int) < 40 := by omega
      have HLW : Hid (wr.heap.size < (wr.alloc (.cells (madeCells #[.int .u8 0] 64) 5)).heap.size) := Lib.hid (by simp)
      obtain ⟨W6, hW6⟩ : ∃ W6, wr.alloc (.cells (madeCells #[.int .u8 0] 64) 5) = W6 := ⟨_, rfl⟩
      have B6 : Hid (Below wr.heap.size wr W6) := Lib.hid (by rw [← hW6]; exact (Below.refl _ _).alloc (Nat.le_refl _) _)
      rw [hW6] at hmk HAR HLW
      obtain ⟨xs, ho, hx⟩ := HO.out
      rw [List.length_replicate] at ho
      obtain ⟨la, lc, rfl⟩ := owns_shape_r ho
      have HOW := Lib.hid ho
      have HXS := Lib.hid hx
      clear hW6 ho hx
      go_wp2_with (refine wp_append_at elemBs rfl (.tmp 45) (.tmp 47) rfl w5.heap.size i (.slice la i lc) xs rfl ((owns_later_r HOW.out B6.out).alloc _) ⟨W6.heap.size, 0, none⟩ 1 1 [.slice (some ⟨wr.heap.size, 0, none⟩) 64 64] rfl (by decide) rfl (news_f W6 [.slice (some ⟨wr.heap.size, 0, none⟩) 64 64] _) (by intro u hu; simp only [List.mem_cons, List.mem_nil_iff, or_false] at hu; rcases hu with rfl; rfl) (by omega) (by have := HB.out.size; have := B6.out.size; simp; omega) ?_; intro v8 w8 hown8 hg8 hb8 hv8; have HO8 : Hid (BOwn w5.heap.size w5.heap.size w8 v8 (List.replicate (i + 1) zero64)) := Lib.hid (by rw [← snocZ]; exact BOwn.snoc (by rw [List.length_replicate]; exact HOW.out) HXS.out B6.out ⟨HB.out.size, HLW.out⟩ (fun e => by have := (HOW.out.lt _ e).2; omega) HAR.out (by rw [List.length_replicate]; exact hown8) hg8 hv8); have B8 : Hid (Below w5.heap.size w5 w8) := Lib.hid (((HB.out.trans (B6.out.mono HB.out.size)).alloc (by have := HB.out.size; have := B6.out.size; omega) _).trans hb8); clear hown8 hg8 hb8 hv8)
      go_roundw
      case rel => exact ⟨i + 1, by go_num, by omega, HO8, B8⟩
      case measure => simp [intOf]; omega
    · obtain rfl : i = 40 := by omega
      have hform := HO.out.form (by rw [List.length_replicate]; decide)
      rw [List.length_replicate] at hform
      obtain ⟨g, cb, rfl, hcb, hgb, hfz, hcells⟩ := hform
      have HRING : Hid (RingW g wr.heap.size wr (List.replicate 40 zero64)) := Lib.hid ⟨List.length_replicate, hgb.2, hfz, fun j ys hj => by
        obtain ⟨db, off, c, c1, c2, c3⟩ := hcells j ys hj
        exact ⟨db, off, c, c1, ⟨c2.2, fun e => by have := arg_lt c3; omega⟩, c3⟩⟩
      have HG : Hid (w5.heap.size ≤ g ∧ g < wr.heap.size) := Lib.hid hgb
      have HCB : Hid (40 ≤ cb) := Lib.hid hcb
      have k0 := cell_later HB.out h0
      have k1 := cell_later HB.out h1
      have HW0 : Hid (w.heap.size < w5.heap.size) := Lib.hid (World.block_lt_of_cell? _ _ h0)
      obtain ⟨wo, hwo⟩ : ∃ wo, wr.alloc (.cells #[.int .i64 (A : Int), .int .i64 (a1 + 1)] 40) = wo := ⟨_, rfl⟩
      have HI0 : Hid (WhI w g wr.heap.size A (a1 + 1) a4 C (rOf zs 0) wo) := Lib.hid (by
        have hb : Below wr.heap.size wr wo := by rw [← hwo]; exact (Below.refl _ _).alloc (Nat.le_refl _) _
        have hb2 : Below w5.heap.size w5 wo := HB.out.trans (hb.mono HB.out.size)
        have e0 : rOf zs 0 = [] := by unfold rOf; rw [List.take_zero]; rfl
        rw [e0]
        refine ⟨B5.out.trans (hb2.mono B5.out.size), ⟨cell_later hb2 h0, cell_later hb2 h1⟩, ⟨?_, ?_, fun j => ?_⟩, _, HRING.out.later hb, laid_start⟩
        · rw [← hwo, World.cell?_alloc_new]
          show _ = some (Value.int .i64 (((A + 0) % 40 : Nat) : Int))
          rw [Nat.add_zero, Nat.mod_eq_of_lt HA40.out]
          rfl
        · rw [← hwo, World.cell?_alloc_new]
          show _ = some (Value.int .i64 (a1 + 1 + ((0 : Nat) : Int)))
          rw [show a1 + 1 + ((0 : Nat) : Int) = a1 + 1 by omega]
          rfl
        · rw [← hwo, World.frozen?_alloc_mark]; simp)
      have HNE : Hid (g ≠ wr.heap.size ∧ w.heap.size < g ∧ w.heap.size < wr.heap.size) := Lib.hid (by have h1 := HG.out; have h2 := HW0.out; omega)
      have hp0 : (totN (rOf zs 0) : Int) = 0 := by unfold rOf; rw [List.take_zero]; rfl
      have hq0 : (wholeN C 0 (rOf zs 0) : Int) = 0 := by unfold rOf; rw [List.take_zero]; rfl
      have HTZ : Hid (totN (rOf zs 0) ≤ 40) := Lib.hid (by omega)
      have HLZ := Lib.hid (And.intro HZ2.out.1.1 HZ2.out.2.2.2)
      go_wp2_with fail
      generalize wr.heap.size = he at *
      clear hcells hfz hgb hcb HO HB HRING BO0 B50 k0 k1 h0 h1 hw5 hwo
      go_loopw [14, 15, 17] (fun pv qv iv wr => ∃ i : Nat, iv = .int .i64 (i : Int) ∧ i ≤ len2 ∧ pv = .int .i64 (totN (rOf zs i) : Int) ∧ qv = .int .i64 (wholeN C 0 (rOf zs i) : Int) ∧ Hid (totN (rOf zs i) ≤ 40) ∧ Hid (WhI w g he A (a1 + 1) a4 C (rOf zs i) wr)) (fun _ _ iv _ => len2 - (intOf iv).toNat)
      case atStart => exact ⟨0, rfl, Nat.zero_le _, by rw [hp0], by rw [hq0], HTZ, HI0⟩
      case round =>
        obtain ⟨i, rfl, hi, rfl, rfl, HT, HI⟩ := hrel
        obtain ⟨wo, rfl⟩ : ∃ wo, wo = wr := ⟨wr, rfl⟩
        obtain ⟨r, hr⟩ : ∃ r, rOf zs i = r := ⟨_, rfl⟩
        have hrl : r.length = i := by rw [← hr]; exact rOf_length (by rw [HLZ.out.1]; exact hi)
        rw [hr] at HT HI ⊢
        have HRL := Lib.hid hrl
        have hir : i ≤ totN r := by rw [← hrl]; exact totN_length r
        have HI40 : Hid (i ≤ 40) := Lib.hid (by have := HT.out; omega)
        have hp40 : (totN r : Int) ≤ 40 := by have := HT.out; omega
        have hp00 : (0 : Int) ≤ (totN r : Int) := by omega
        have i40 : (i : Int) ≤ 40 := by omega
        have i00 : (0 : Int) ≤ (i : Int) := by omega
        have il : (i : Int) ≤ (len2 : Int) := by omega
        have HRS : Hid (∀ n ∈ r, 1 ≤ n ∧ n ≤ 5) := Lib.hid (by rw [← hr]; exact rOf_small zs i)
        clear hrl hir HI0 HTZ
        by_cases hlt : i < len2
        · obtain ⟨zb, zo, rfl, hzc⟩ := HZ2.out.1.2.2.2.resolve_left (show len2 ≠ 0 by omega)
          have hz0 := hzc i hlt
          obtain ⟨z, hz⟩ : ∃ z, zs[i]? = some z := ⟨_, List.getElem?_eq_getElem (by rw [HLZ.out.1]; exact hlt)⟩
          have hzv : zs.getD i 0 = z := by rw [List.getD_eq_getElem?_getD, hz]; rfl
          rw [hzv] at hz0
          have hz255 := HZ2.out.1.2.2.1 z (List.mem_of_getElem? hz)
          obtain ⟨m, hm⟩ : ∃ m : Nat, Int.tmod z 5 = (m : Int) := ⟨(Int.tmod z 5).toNat, by rw [Int.tmod_eq_emod_of_nonneg hz255.1]; omega⟩
          have hm2 : (z % 5).toNat + 1 = m + 1 ∧ m ≤ 4 := by rw [Int.tmod_eq_emod_of_nonneg hz255.1] at hm; omega
          have hr2 := rOf_succ hz
          rw [hr, hm2.1] at hr2
          have HR2 := Lib.hid hr2
          have HM4 := Lib.hid hm2.2
          have m4 : (m : Int) ≤ 4 := by omega
          have m0 : (0 : Int) ≤ (m : Int) := by omega
          have z0 : wo.cell? ⟨zb, zo + i, none⟩ = some (.int .u8 z) := cell_later HI.out.1 hz0
          have i1 : (i : Int) < (len2 : Int) := by omega
          have hH0 := HI.out.2.1.1
          have hH1 := HI.out.2.1.2
          clear hzc hz0 hzv hz hm2 hr2
          by_cases hfit : totN r + (m + 1 + 2) ≤ 40
          · have HFIT := Lib.hid hfit
            have j1 : (totN r : Int) + ((m : Int) + 1) + 2 ≤ 40 := by omega
            have NV : Hid (DVar wo wo.heap.size (a1 + 1 + (i : Int)) (.slice none 0 0) (wo.alloc (.cells #[.int .i64 (a1 + 1 + (i : Int)), .slice none 0 0] 24))) := Lib.hid (dvar_new wo _)
            go_wp2_with fail
            go_loopw [20] (fun kv wr => ∃ (k : Nat) (vv : Value), kv = .int .i64 (k : Int) ∧ k ≤ m + 1 ∧ Hid (DVar wo wo.heap.size (a1 + 1 + (i : Int)) vv wr) ∧ Hid (wr.ownsRow (wo.heap.size + 1) 3 1 vv k (ints (toK i k)))) (fun kv _ => m + 1 - (intOf kv).toNat)
            case atStart => exact ⟨0, _, rfl, Nat.zero_le _, NV, Lib.hid (owns_nil_r _ _ _ _)⟩
            case round =>
              obtain ⟨k, vv, rfl, hk, HV, HO⟩ := hrel
              by_cases hklt : k < m + 1
              · have c1 := HV.out.2.2.1
                have r1 := HV.out.2.2.2
                have k1 : (k : Int) < (m : Int) + 1 := by omega
                have k0 : (0 : Int) ≤ (k : Int) := by omega
                have HSZ : Hid (wo.heap.size + 1 ≤ wr.heap.size) := Lib.hid HV.out.lt
                have HST := Lib.hid (toK_succ i k)
                have c1a : ∀ x, (wr.alloc (.cells #[.int .i64 x] 3)).cell? ⟨wo.heap.size, 1, none⟩ = some vv := fun x => cell_later ((Below.refl _ _).alloc (Nat.le_refl _) _) c1
                go_wp2_with (refine wp_append_at elemIR rfl (.tmp 79) (.tmp 85) rfl (wo.heap.size + 1) k vv _ rfl (HO.out.alloc _) ⟨wr.heap.size, 0, none⟩ 1 1 [.int .i64 (60 + 7 * (i : Int) + (k : Int))] rfl (by decide) rfl (news_f wr [.int .i64 (60 + 7 * (i : Int) + (k : Int))] _) (by intro u hu; simp only [List.mem_cons, List.mem_nil_iff, or_false] at hu; rcases hu with rfl; rfl) (by omega) (by have := HSZ.out; simp; omega) ?_; intro v4 w4 hown4 _ hb4 _; obtain ⟨ao4, cp4, rfl⟩ := owns_shape_r hown4; have HO4 := Lib.hid hown4; have NV4 := Lib.hid ((HV.out.later ((Below.refl _ _).alloc (Nat.le_refl _) (.cells #[.int .i64 (60 + 7 * (i : Int) + (k : Int))] 3))).under hb4 (by omega) (by simp)); have c4 := NV4.out.2.2.1; have f4 := NV4.out.2.2.2; clear hown4 hb4)
                go_roundw
                case rel =>
                  (repeat apply Exists.intro)
                  refine And.intro ?_ rfl
                  exact ⟨k + 1, _, by go_num, by omega, Lib.hid (NV4.out.setSl (by simp)), Lib.hid (by rw [HST.out, ints_append]; exact owns_setCell HO4.out (by omega))⟩
                case measure => simp [intOf]; omega
              · obtain rfl : k = m + 1 := by omega
                obtain ⟨ad, cd, rfl⟩ := owns_shape_r HO.out
                have hsd : soundD (dW (a1 + 1) i (m + 1)) = true := dW_sound (by omega) (by omega) HI40.out ⟨by omega, by have := HM4.out; omega⟩
                have hIA : IArg wr ad (m + 1) cd (toK i (m + 1)) := by
                  obtain ⟨a, c, he, hI, _⟩ := fresh_of_ints HO.out (by
                    intro x hx
                    unfold toK at hx
                    obtain ⟨j, hj, rfl⟩ := List.mem_map.1 hx
                    have := List.mem_range.1 hj
                    unfold I64
                    omega) (by have := HM4.out; omega)
                  rw [toK_length] at he hI
                  simp only [Value.slice.injEq, true_and] at he
                  obtain ⟨rfl, rfl⟩ := he
                  exact hI
                have cBeg := logOk.beg (a1 + 1 + (i : Int)) (by unfold I64; omega) hIA
                have e1 : begErr ⟨a1 + 1 + (i : Int), toK i (m + 1)⟩ = 0 := by unfold begErr; exact if_pos hsd
                have e2 : begOut ⟨a1 + 1 + (i : Int), toK i (m + 1)⟩ = begB (dW (a1 + 1) i (m + 1)) := by unfold begOut; exact if_pos hsd
                rw [e1, e2] at cBeg
                have hok : okEnd (a1 + 1 + (i : Int)) ((m : Int) + 1) = true := by unfold okEnd; rw [decide_eq_true_eq]; omega
                have cEnd := fun W => logOk.fin (a1 + 1 + (i : Int)) ((m : Int) + 1) W (by unfold I64; omega) (by unfold I64; omega)
                have e3 : endErr (a1 + 1 + (i : Int)) ((m : Int) + 1) = 0 := by unfold endErr; exact if_pos hok
                have e4 : endOut (a1 + 1 + (i : Int)) ((m : Int) + 1) = endB (a1 + 1 + (i : Int)) ((m : Int) + 1) := by unfold endOut; exact if_pos hok
                rw [e3, e4] at cEnd
                obtain ⟨F, hF⟩ : ∃ F, begB (dW (a1 + 1) i (m + 1)) = F := ⟨_, rfl⟩
                obtain ⟨E, hE⟩ : ∃ E, endB (a1 + 1 + (i : Int)) ((m : Int) + 1) = E := ⟨_, rfl⟩
                have HFL : Hid (F.length = 64) := Lib.hid (by rw [← hF]; exact begB_length (soundD_parts hsd).1.2.1)
                have HEL : Hid (E.length = 64) := Lib.hid (by rw [← hE]; exact endB_length _ _)
                have HTW : Hid (txW (a1 + 1) a4 i (m + 1) = F :: (List.replicate (m + 1) (datW a4 i) ++ [E])) := Lib.hid (by rw [← hF, ← hE]; rfl)
                rw [hF] at cBeg
                rw [hE] at cEnd
                have HWR : Hid (wo.heap.size ≤ wr.heap.size) := Lib.hid HV.out.1.size
                have dd0 := HV.out.2.1
                have dd1 := HV.out.2.2.1
                have l40 : (a1 + 1 + (i : Int)) ≤ 1000000 := by omega
                clear e1 e2 e3 e4 hok hsd hIA hF hE NV
                go_wp2_with (first
                  | (go_at_call 15; refine (cEnd _).mono ?_; rintro e w10 ⟨v10, rfl, ⟨ao10, c10, rfl, hA10, hfr10⟩, hb10⟩; rw [HEL.out] at hA10; rw [HEL.out]; obtain ⟨lb, lo, rfl, hlb, _⟩ := hfr10.resolve_left (fun e => by have := HEL.out; rw [e] at this; simp at this); have HA10 := Lib.hid hA10; have HLB : Hid (wo.heap.size ≤ lb) := Lib.hid (by have h1 := HFB.out.2; have h2 := HWR.out; omega); have HA9' := Lib.hid (HA9.out.later hb10); have HFB' : Hid (wo.heap.size ≤ fb) := Lib.hid (by have := HFB.out.1; have := HWR.out; omega); have B10 : Hid (Below wr.heap.size wr w10) := Lib.hid (B9.out.trans (hb10.mono B9.out.size)); have q0 := cell_later hb10 p0; clear hA10 hfr10 hb10 hlb)
                  | (go_at_call 9; refine cBeg.mono ?_; rintro e w9 ⟨v9, rfl, ⟨ao9, c9, rfl, hA9, hfr9⟩, hb9⟩; rw [HFL.out] at hA9; rw [HFL.out]; obtain ⟨fb, fo, rfl, hfb, _⟩ := hfr9.resolve_left (fun e => by have := HFL.out; rw [e] at this; simp at this); have HA9 := Lib.hid hA9; have HFB : Hid (wr.heap.size ≤ fb ∧ wr.heap.size ≤ w9.heap.size) := Lib.hid ⟨hfb, hb9.size⟩; have B9 := Lib.hid hb9; have p0 := cell_later hb9 dd0; clear hA9 hfr9 hb9 hfb))
                have HLS : Hid (BOwn w10.heap.size wo.heap.size (w10.alloc (.cells #[.slice (some ⟨fb, fo, none⟩) (64 : Nat) c9] 25)) (.slice (some ⟨w10.heap.size, 0, none⟩) 1 1) (F :: List.replicate 0 (datW a4 i))) := Lib.hid (BOwn.one ⟨HFB'.out, arg_lt HA9'.out⟩ HA9'.out)
                have B11 : Hid (Below w10.heap.size w10 (w10.alloc (.cells #[.slice (some ⟨fb, fo, none⟩) (64 : Nat) c9] 25))) := Lib.hid ((Below.refl _ _).alloc (Nat.le_refl _) _)
                have HV10 : Hid (DVar wo wo.heap.size (a1 + 1 + (i : Int)) (.slice ad (m + 1) cd) w10) := Lib.hid (HV.out.later B10.out)
                clear HO HV dd0 dd1 p0 q0 cBeg cEnd
                go_loopw [25, 26] (fun lv kv wr => ∃ k : Nat, kv = .int .i64 (k : Int) ∧ k ≤ m + 1 ∧ Hid (BOwn w10.heap.size wo.heap.size wr lv (F :: List.replicate k (datW a4 i))) ∧ Hid (Below w10.heap.size w10 wr)) (fun _ kv _ => m + 1 - (intOf kv).toNat)
                case atStart => exact ⟨0, rfl, Nat.zero_le _, HLS, B11⟩
                case round =>
                  obtain ⟨k, rfl, hk, HO, HB⟩ := hrel
                  by_cases hklt : k < m + 1
                  · have hmk := run_make_bytes wr 64 (by decide)
                    rw [show ((64 : Nat) : Int) = 64 from rfl] at hmk
                    have hown := made_own wr 64
                    obtain ⟨gk, hgk⟩ : ∃ gk, wr.heap.size = gk := ⟨_, rfl⟩
                    rw [hgk] at hmk hown
                    have HGK := Lib.hid hgk
                    have k1 : (k : Int) < (m : Int) + 1 := by omega
                    have k0 : (0 : Int) ≤ (k : Int) := by omega
                    obtain ⟨W6, hW6⟩ : ∃ W6, wr.alloc (.cells (madeCells #[.int .u8 0] 64) 5) = W6 := ⟨_, rfl⟩
                    have HLW : Hid (gk < W6.heap.size) := Lib.hid (by rw [← hW6, ← hgk]; simp)
                    rw [hW6] at hmk hown
                    have q0 : W6.cell? ⟨gk, 0, none⟩ = some (.int .u8 0) := hown.2.1 0 (by decide)
                    have q1 : W6.cell? ⟨gk, 1, none⟩ = some (.int .u8 0) := hown.2.1 1 (by decide)
                    have f0 := hown.2.2.1 0
                    have f1 := hown.2.2.1 1
                    obtain ⟨W7, hW7⟩ : ∃ W7, (W6.setCell ⟨gk, 0, none⟩ (.int .u8 a4)).setCell ⟨gk, 1, none⟩ (.int .u8 (i : Int)) = W7 := ⟨_, rfl⟩
                    have hown7 : Own wr.heap.size wr gk (datW a4 i) W7 := by
                      rw [← hW7]
                      rw [← hgk] at hown ⊢
                      exact dat_own HF.out (by have := HI40.out; omega) hown
                    have HA7 : Hid (Arg W7 (some ⟨gk, 0, none⟩) 64 64 (datW a4 i)) := Lib.hid (own_arg hown7 rfl)
                    have B7 : Hid (Below wr.heap.size wr W7) := Lib.hid hown7.2.2.2.2
                    have HGL : Hid (gk < W7.heap.size) := Lib.hid (arg_lt HA7.out)
                    obtain ⟨xs, ho, hx⟩ := HO.out
                    rw [List.length_cons, List.length_replicate] at ho
                    obtain ⟨la, lc, rfl⟩ := owns_shape_r ho
                    have HOW := Lib.hid ho
                    have HXS := Lib.hid hx
                    have HWO : Hid (wo.heap.size ≤ gk ∧ w10.heap.size ≤ wr.heap.size) := Lib.hid (by have h1 := HWR.out; have h2 := B10.out.size; have h3 := HB.out.size; have h4 := HGK.out; omega)
                    clear hW6 hgk hown hown7 ho hx
                    go_wp2_with (refine wp_append_at elemBs rfl (.tmp 121) (.tmp 123) rfl w10.heap.size (k + 1) (.slice la (k + 1) lc) xs rfl ((owns_later_r HOW.out B7.out).alloc _) ⟨W7.heap.size, 0, none⟩ 1 1 [.slice (some ⟨gk, 0, none⟩) 64 64] rfl (by decide) rfl (news_f W7 [.slice (some ⟨gk, 0, none⟩) 64 64] _) (by intro u hu; simp only [List.mem_cons, List.mem_nil_iff, or_false] at hu; rcases hu with rfl; rfl) (by have := HM4.out; omega) (by have h1 := HWO.out.2; have h2 := B7.out.size; simp; omega) ?_; intro v8 w8 hown8 hg8 hb8 hv8; have HO8 : Hid (BOwn w10.heap.size wo.heap.size w8 v8 (F :: List.replicate (k + 1) (datW a4 i))) := Lib.hid (by rw [List.replicate_succ', ← List.cons_append]; exact BOwn.snoc (by rw [List.length_cons, List.length_replicate]; exact HOW.out) HXS.out B7.out ⟨HWO.out.1, HGL.out⟩ (fun e => by have h1 := (HOW.out.lt _ e).2; have h2 := HGK.out; omega) HA7.out (by rw [List.length_cons, List.length_replicate]; exact hown8) hg8 hv8); have B8 : Hid (Below w10.heap.size w10 w8) := Lib.hid (((HB.out.trans (B7.out.mono HB.out.size)).alloc (by have h1 := HWO.out.2; have h2 := B7.out.size; omega) _).trans hb8); clear hown8 hg8 hb8 hv8)
                    go_roundw
                    case rel => exact ⟨k + 1, by go_num, by omega, HO8, B8⟩
                    case measure => simp [intOf]; omega
                  · obtain rfl : k = m + 1 := by omega
                    obtain ⟨xs, ho, hx⟩ := HO.out
                    rw [List.length_cons, List.length_replicate] at ho
                    obtain ⟨la, lc, rfl⟩ := owns_shape_r ho
                    have HOW := Lib.hid ho
                    have HXS := Lib.hid hx
                    have HWO : Hid (w10.heap.size ≤ wr.heap.size) := Lib.hid HB.out.size
                    have HLBL : Hid (wo.heap.size ≤ lb ∧ lb < wr.heap.size ∧ lb < w10.heap.size) := Lib.hid (by have h1 := arg_lt HA10.out; have h2 := HLB.out; have h3 := HWO.out; omega)
                    have HA10' := Lib.hid (HA10.out.later HB.out)
                    clear ho hx
                    go_wp2_with (refine wp_append_at elemBs rfl (.tmp 125) (.tmp 127) rfl w10.heap.size (m + 1 + 1) (.slice la (m + 1 + 1) lc) xs rfl (HOW.out.alloc _) ⟨wr.heap.size, 0, none⟩ 1 1 [.slice (some ⟨lb, lo, none⟩) 64 c10] rfl (by decide) rfl (news_f wr [.slice (some ⟨lb, lo, none⟩) 64 c10] _) (by intro u hu; simp only [List.mem_cons, List.mem_nil_iff, or_false] at hu; rcases hu with rfl; rfl) (by have := HM4.out; omega) (by have h1 := HWO.out; simp; omega) ?_; intro v12 w12 hown12 hg12 hb12 hv12; have HT12 : Hid (BOwn w10.heap.size wo.heap.size w12 v12 (txW (a1 + 1) a4 i (m + 1))) := Lib.hid (by rw [HTW.out, ← List.cons_append]; exact BOwn.snoc (by rw [List.length_cons, List.length_replicate]; exact HOW.out) HXS.out (Below.refl _ _) ⟨HLBL.out.1, HLBL.out.2.1⟩ (fun e => by have h1 := (HOW.out.lt _ e).1; have h2 := HLBL.out.2.2; omega) HA10'.out (by rw [List.length_cons, List.length_replicate]; exact hown12) hg12 hv12); have B12 : Hid (Below w10.heap.size w10 w12) := Lib.hid ((HB.out.alloc HWO.out _).trans hb12); clear hown12 hg12 hb12 hv12)
                    have HFW : Hid (flatW (a1 + 1) a4 0 r ++ txW (a1 + 1) a4 i (m + 1) = flatW (a1 + 1) a4 0 (r ++ [m + 1])) := Lib.hid (by rw [flatW_snoc, Nat.zero_add, HRL.out])
                    have HTL : Hid ((txW (a1 + 1) a4 i (m + 1)).length = m + 1 + 2) := Lib.hid (txW_length _ _ _ _)
                    have hform := HT12.out.form (by rw [HTL.out]; omega)
                    rw [HTL.out] at hform
                    obtain ⟨lg, lc2, rfl, _, hlg, _, hcl⟩ := hform
                    have HCL := Lib.hid hcl
                    clear HT12 HTW hcl HO HOW HXS HA10 HA10' HA9 HA9' HLS
                    generalize txW (a1 + 1) a4 i (m + 1) = T at *
                    have HW12 : Hid (Below wo.heap.size wo w12) := Lib.hid (HV10.out.1.trans (B12.out.mono HV10.out.1.size))
                    obtain ⟨bs0, hring0, hlaid0⟩ := HI.out.2.2.2
                    have HNN : Hid (g < wo.heap.size ∧ he < wo.heap.size ∧ w.heap.size < wo.heap.size ∧ wo.heap.size ≤ w10.heap.size ∧ w10.heap.size ≤ lg) := Lib.hid ⟨hring0.2.1, World.block_lt_of_cell? _ _ HI.out.2.2.1.1, World.block_lt_of_cell? _ _ hH0, HV10.out.1.size, hlg.1⟩
                    have HRG0 : Hid (∃ bs, RingW g he w12 bs ∧ LaidL bs A C (flatW (a1 + 1) a4 0 r ++ T.take 0)) := Lib.hid ⟨bs0, hring0.later HW12.out, by rw [List.take_zero, List.append_nil]; exact hlaid0⟩
                    have HB0 : Hid (Below w.heap.size w w12) := Lib.hid (HI.out.1.trans (HW12.out.mono HI.out.1.size))
                    have h012 := cell_later HW12.out hH0
                    have dq := (HV10.out.later B12.out).2.1
                    have HK0 : Hid (Keeps g w12 w12) := Lib.hid (Keeps.refl g w12)
                    clear hring0 hlaid0 hlg
                    go_loopw [14, 28] (fun pv kv wr => ∃ k : Nat, kv = .int .i64 (k : Int) ∧ pv = .int .i64 ((totN r + k : Nat) : Int) ∧ k ≤ m + 1 + 2 ∧ Hid (∃ bs, RingW g he wr bs ∧ LaidL bs A C (flatW (a1 + 1) a4 0 r ++ T.take k)) ∧ Hid (Keeps g w12 wr) ∧ Hid (Below w.heap.size w wr)) (fun _ kv _ => m + 1 + 2 - (intOf kv).toNat)
                    case atStart => exact ⟨0, rfl, rfl, Nat.zero_le _, HRG0, HK0, HB0⟩
                    case round =>
                      obtain ⟨k, rfl, rfl, hk, HRG, HK, HB⟩ := hrel
                      have HFLEN : Hid ((flatW (a1 + 1) a4 0 r ++ T.take k).length = totN r + k) := Lib.hid (by rw [List.length_append, flatW_length, List.length_take, HTL.out]; omega)
                      by_cases hklt : k < m + 1 + 2
                      · obtain ⟨x, hx⟩ : ∃ x, T[k]? = some x := ⟨_, List.getElem?_eq_getElem (by rw [HTL.out]; exact hklt)⟩
                        obtain ⟨db, off, c, hc, hdb, hAx⟩ := HCL.out k x hx
                        have hn := HNN.out
                        have d1 : wr.cell? ⟨lg, k, none⟩ = some (.slice (some ⟨db, off, none⟩) (64 : Nat) c) := by rw [HK.out.cell (p := ⟨lg, k, none⟩) (by show lg ≠ g; omega)]; exact hc
                        have d0 : wr.cell? ⟨w.heap.size, 0, none⟩ = some (.int .i64 (A : Int)) := by rw [HK.out.cell (p := ⟨w.heap.size, 0, none⟩) (by show w.heap.size ≠ g; have := HNE.out; omega)]; exact h012
                        have HAX : Hid (Arg wr (some ⟨db, off, none⟩) 64 c x) := Lib.hid (arg_keeps hAx HK.out (by omega))
                        have HDB : Hid (db ≠ g ∧ db ≠ he) := Lib.hid (by omega)
                        have HTK : Hid (T.take (k + 1) = T.take k ++ [x]) := Lib.hid (by rw [List.take_add_one, hx]; rfl)
                        have HNW : Hid (lg ≠ g ∧ w.heap.size ≠ g ∧ w.heap.size ≤ g) := Lib.hid (by have := HNE.out; omega)
                        obtain ⟨bs, hring, hlaid⟩ := HRG.out
                        have HRING := Lib.hid hring
                        have HLAID := Lib.hid hlaid
                        have hP40 : totN r + k < 40 := by have := HFIT.out; omega
                        obtain ⟨P, hP⟩ : ∃ P, totN r + k = P := ⟨_, rfl⟩
                        have HP := Lib.hid hP
                        rw [hP] at hP40 HFLEN ⊢
                        have HP40 := Lib.hid hP40
                        have p40 : (P : Int) < 40 := by omega
                        have p00 : (0 : Int) ≤ (P : Int) := by omega
                        have k1 : (k : Int) < (m : Int) + 1 + 2 := by omega
                        have k0 : (0 : Int) ≤ (k : Int) := by omega
                        clear hx hc hdb hAx hring hlaid hn hP hP40
                        by_cases hcut : P < C
                        · have hcutI : (P : Int) < (C : Int) := by omega
                          have HCUT := Lib.hid hcut
                          obtain ⟨jj, hj⟩ : ∃ jj, (A + P) % 40 = jj := ⟨_, rfl⟩
                          have HJ := Lib.hid hj
                          have hj40 : jj < 40 := by omega
                          have HJ40 := Lib.hid hj40
                          obtain ⟨_, e4, f4, db', off', cap', rfl⟩ := HRING.out.at hj40
                          have x1 : IntKind.i64.wrap ((A : Int) + (P : Int)) = (A : Int) + (P : Int) := IntWalk.i64_in _ (by omega)
                          have x3 : Int.tmod ((A : Int) + (P : Int)) 40 = (jj : Int) := by rw [IntWalk.rem_in _ _ (by omega)]; omega
                          have x4 : IntKind.i64.wrap (jj : Int) = (jj : Int) := IntWalk.i64_in _ (by omega)
                          have j0 : (0 : Int) ≤ (jj : Int) := by omega
                          have j40 : (jj : Int) < 40 := by omega
                          have dS : ∀ u, (wr.drew.setCell ⟨g, jj, none⟩ u).cell? ⟨w.heap.size, 0, none⟩ = some (.int .i64 (A : Int)) ∧ (wr.drew.setCell ⟨g, jj, none⟩ u).cell? ⟨lg, k, none⟩ = some (.slice (some ⟨db, off, none⟩) (64 : Nat) c) := fun u => by
                            rw [World.cell?_setCell_other (h := by intro e; exact HNW.out.2.1 (congrArg Addr.block e).symm), World.cell?_setCell_other (h := by intro e; exact HNW.out.1 (congrArg Addr.block e).symm)]; exact ⟨d0, d1⟩
                          have HRG2 : Hid (∃ bs, RingW g he (wr.drew.setCell ⟨g, jj, none⟩ (.slice (some ⟨db, off, none⟩) 64 c)) bs ∧ LaidL bs A C (flatW (a1 + 1) a4 0 r ++ T.take (k + 1))) := Lib.hid ⟨bs.set jj x, HRING.out.drew.set HJ40.out HDB.out (HAX.out.later (Below.refl _ _).drew), by
                            rw [HTK.out, ← List.append_assoc, ← HJ.out, ← HFLEN.out]
                            exact laid_in HLAID.out HA40.out HRING.out.1 (by rw [HFLEN.out]; exact HP40.out) (by rw [HFLEN.out]; exact HCUT.out)⟩
                          have HK2 : Hid (Keeps g w12 (wr.drew.setCell ⟨g, jj, none⟩ (.slice (some ⟨db, off, none⟩) 64 c))) := Lib.hid (HK.out.drew.trans (Keeps.set _ ⟨g, jj, none⟩ _))
                          have HB2 : Hid (Below w.heap.size w (wr.drew.setCell ⟨g, jj, none⟩ (.slice (some ⟨db, off, none⟩) 64 c))) := Lib.hid (HB.out.drew.setCell (p := ⟨g, jj, none⟩) HNW.out.2.2 _)
                          clear hj hj40 hcut
                          go_wp2_with fail
                          refine wp_region_held_drew (S := fun W => W.cell? ⟨w.heap.size, 0, none⟩ = some (.int .i64 (A : Int)) ∧ W.cell? ⟨lg, k, none⟩ = some (.slice (some ⟨db, off, none⟩) (64 : Nat) c)) (by kernel_rfl) ⟨d0, d1⟩ (fun hHeld => ?_)
                          refine wpAnyH_take (i := 0) (oi := ⟨some 140, _, _, _, _, _⟩) (v := .slice (some ⟨g, 0, none⟩) (40 : Nat) cb) rfl (by kernel_rfl) (by kernel_rfl) (by kernel_rfl) (fun _ _ _ h => h) (Or.inl ⟨by kernel_rfl, fun w _ => rfl⟩) (by assumption) ?_
                          try simp only [Act.put, List.setIfInBounds_toArray, List.set_cons_zero, List.set_cons_succ]
                          refine wpAnyH_take (i := 1) (oi := ⟨some 141, _, _, _, _, _⟩) (v := .pointer (some ⟨w.heap.size, 0, none⟩)) rfl (by kernel_rfl) (by kernel_rfl) (by kernel_rfl) (fun _ _ _ h => h) (Or.inl ⟨by kernel_rfl, by intro w _; go_simp; (try omega)⟩) (by assumption) ?_
                          try simp only [Act.put, List.setIfInBounds_toArray, List.set_cons_zero, List.set_cons_succ]
                          refine wpAnyH_take (i := 2) (oi := ⟨some 142, _, _, _, _, _⟩) (v := .int .i64 (A : Int)) rfl (by kernel_rfl) (by kernel_rfl) (by kernel_rfl) (fun _ _ _ h => h) (Or.inl ⟨by kernel_rfl, by intro w hSw; obtain ⟨s1, s2⟩ := hSw; go_simp⟩) (by assumption) ?_
                          try simp only [Act.put, List.setIfInBounds_toArray, List.set_cons_zero, List.set_cons_succ]
                          refine wpAnyH_take (i := 3) (oi := ⟨some 143, _, _, _, _, _⟩) (v := .int .i64 (P : Int)) rfl (by kernel_rfl) (by kernel_rfl) (by kernel_rfl) (fun _ _ _ h => h) (Or.inl ⟨by kernel_rfl, fun w _ => rfl⟩) (by assumption) ?_
                          try simp only [Act.put, List.setIfInBounds_toArray, List.set_cons_zero, List.set_cons_succ]
                          refine wpAnyH_take (i := 4) (oi := ⟨some 144, _, _, _, _, _⟩) (v := .int .i64 ((A : Int) + (P : Int))) rfl (by kernel_rfl) (by kernel_rfl) (by kernel_rfl) (fun _ _ _ h => h) (Or.inl ⟨by kernel_rfl, by intro w _; go_simp; (try omega)⟩) (by assumption) ?_
                          try simp only [Act.put, List.setIfInBounds_toArray, List.set_cons_zero, List.set_cons_succ]
                          refine wpAnyH_take (i := 5) (oi := ⟨some 145, _, _, _, _, _⟩) (v := .int .i64 (jj : Int)) rfl (by kernel_rfl) (by kernel_rfl) (by kernel_rfl) (fun _ _ _ h => h) (Or.inl ⟨by kernel_rfl, by intro w _; go_simp; (try omega)⟩) (by assumption) ?_
                          try simp only [Act.put, List.setIfInBounds_toArray, List.set_cons_zero, List.set_cons_succ]
                          refine wpAnyH_take (i := 6) (oi := ⟨some 146, _, _, _, _, _⟩) (v := .slice (some ⟨lg, 0, none⟩) (m + 1 + 2) lc2) rfl (by kernel_rfl) (by kernel_rfl) (by kernel_rfl) (fun _ _ _ h => h) (Or.inl ⟨by kernel_rfl, fun w _ => rfl⟩) (by assumption) ?_
                          try simp only [Act.put, List.setIfInBounds_toArray, List.set_cons_zero, List.set_cons_succ]
                          refine wpAnyH_take (i := 7) (oi := ⟨some 147, _, _, _, _, _⟩) (v := .int .i64 (k : Int)) rfl (by kernel_rfl) (by kernel_rfl) (by kernel_rfl) (fun _ _ _ h => h) (Or.inl ⟨by kernel_rfl, fun w _ => rfl⟩) (by assumption) ?_
                          try simp only [Act.put, List.setIfInBounds_toArray, List.set_cons_zero, List.set_cons_succ]
                          refine wpAnyH_take (i := 8) (oi := ⟨some 148, _, _, _, _, _⟩) (v := .pointer (some ⟨lg, k, none⟩)) rfl (by kernel_rfl) (by kernel_rfl) (by kernel_rfl) (fun _ _ _ h => h) (Or.inl ⟨by kernel_rfl, by intro w _; go_simp; (try omega)⟩) (by assumption) ?_
                          try simp only [Act.put, List.setIfInBounds_toArray, List.set_cons_zero, List.set_cons_succ]
                          refine wpAnyH_take (i := 9) (oi := ⟨some 149, _, _, _, _, _⟩) (v := .slice (some ⟨db, off, none⟩) (64 : Nat) c) rfl (by kernel_rfl) (by kernel_rfl) (by kernel_rfl) (fun _ _ _ h => h) (Or.inl ⟨by kernel_rfl, by intro w hSw; obtain ⟨s1, s2⟩ := hSw; go_simp⟩) (by assumption) ?_
                          try simp only [Act.put, List.setIfInBounds_toArray, List.set_cons_zero, List.set_cons_succ]
                          refine wpAnyH_take (i := 10) (oi := ⟨some 150, _, _, _, _, _⟩) (v := .pointer (some ⟨g, jj, none⟩)) rfl (by kernel_rfl) (by kernel_rfl) (by kernel_rfl) (fun _ _ _ h => h) (Or.inl ⟨by kernel_rfl, by intro w _; go_simp; (try omega)⟩) (by assumption) ?_
                          try simp only [Act.put, List.setIfInBounds_toArray, List.set_cons_zero, List.set_cons_succ]
                          refine wpAnyH_ready (rs := [11]) (by kernel_rfl) (by simp) ?_
                          refine AllReadyH.cons (o := ⟨none, _, _, _, _, _⟩) rfl (fun K hK => ?_) AllReadyH.nil
                          go_simp
                          refine hK.out _ _ ?_ (fun hHeld1 => ?_)
                          · exact dS _
                          clear hK K
                          try simp only [Act.put, List.setIfInBounds_toArray, List.set_cons_zero, List.set_cons_succ]
                          refine wpAnyH_done (by kernel_rfl) ?_ _
                          go_wp2_with fail
                          go_roundw
                          case rel => exact ⟨k + 1, by go_num, by rw [show totN r + (k + 1) = P + 1 by have := HP.out; omega]; rfl, by omega, HRG2, HK2, HB2⟩
                          case measure => simp [intOf]; omega
                        · have hcutI : ¬ (P : Int) < (C : Int) := by omega
                          have HRG2 : Hid (∃ bs, RingW g he wr bs ∧ LaidL bs A C (flatW (a1 + 1) a4 0 r ++ T.take (k + 1))) := Lib.hid ⟨bs, HRING.out, by
                            rw [HTK.out, ← List.append_assoc]
                            exact laid_out HLAID.out (by rw [HFLEN.out]; exact hcut)⟩
                          clear hcut
                          go_wp2_with fail
                          go_roundw
                          case rel => exact ⟨k + 1, by go_num, by rw [show totN r + (k + 1) = P + 1 by have := HP.out; omega]; rfl, by omega, HRG2, HK, HB⟩
                          case measure => simp [intOf]; omega
                      · obtain rfl : k = m + 1 + 2 := by omega
                        obtain ⟨bs, hring, hlaid⟩ := HRG.out
                        rw [List.take_of_length_le (by rw [HTL.out]; exact Nat.le_refl _), HFW.out] at hlaid
                        have hn := HNN.out
                        have hne := HNE.out
                        have d0 : wr.cell? ⟨w.heap.size, 0, none⟩ = some (.int .i64 (A : Int)) := by rw [HK.out.cell (p := ⟨w.heap.size, 0, none⟩) (by show w.heap.size ≠ g; omega)]; exact h012
                        have d1 : wr.cell? ⟨w.heap.size, 1, none⟩ = some (.int .i64 (a1 + 1)) := by rw [HK.out.cell (p := ⟨w.heap.size, 1, none⟩) (by show w.heap.size ≠ g; omega)]; exact cell_later HW12.out hH1
                        have dd : wr.cell? ⟨wo.heap.size, 0, none⟩ = some (.int .i64 (a1 + 1 + (i : Int))) := by rw [HK.out.cell (p := ⟨wo.heap.size, 0, none⟩) (by show wo.heap.size ≠ g; omega)]; exact dq
                        have e0 : wr.cell? ⟨he, 0, none⟩ = some (.int .i64 (((A + placeN C 0 r) % 40 : Nat) : Int)) := by rw [HK.out.cell (p := ⟨he, 0, none⟩) (by show he ≠ g; omega)]; exact cell_later HW12.out HI.out.2.2.1.1
                        have e1 : wr.cell? ⟨he, 1, none⟩ = some (.int .i64 (a1 + 1 + (wholeN C 0 r : Int))) := by rw [HK.out.cell (p := ⟨he, 1, none⟩) (by show he ≠ g; omega)]; exact cell_later HW12.out HI.out.2.2.1.2.1
                        have hfz : ∀ j, wr.frozen? ⟨he, j, none⟩ = false := fun j => by
                          rw [World.frozen?_of_block (w := w12) (HK.out.2 (⟨he, j, none⟩ : Addr).block (by show he ≠ g; omega)), HW12.out.frozen (p := ⟨he, j, none⟩) (by show he < wo.heap.size; omega)]
                          exact HI.out.2.2.1.2.2 j
                        have f0 := hfz 0
                        have f1 := hfz 1
                        have HFZ := Lib.hid hfz
                        have HRING := Lib.hid hring
                        have HLAID := Lib.hid hlaid
                        have HNHE : Hid (g ≠ he ∧ w.heap.size ≠ he ∧ w.heap.size ≤ he) := Lib.hid (by omega)
                        have hws := wholeN_snoc C (m + 1) r 0
                        have hps := placeN_snoc C (m + 1) r 0
                        have htot := totN_snoc (m + 1) r
                        rw [Nat.zero_add] at hws hps
                        obtain ⟨P, hP⟩ : ∃ P, totN r + (m + 1 + 2) = P := ⟨_, rfl⟩
                        rw [hP] at hws hps htot ⊢
                        have HTOT := Lib.hid htot
                        have HP40 : Hid (P ≤ 40) := Lib.hid (by have := HFIT.out; omega)
                        have p40 : (P : Int) ≤ 40 := by have := HP40.out; omega
                        have p00 : (0 : Int) ≤ (P : Int) := by omega
                        have hwl := wholeN_le C r 0
                        have hwa := wholeN_all C r 0
                        rw [Nat.zero_add, HRL.out] at hwa
                        rw [HRL.out] at hwl
                        have HR2' := HR2
                        clear hring hlaid hn hne hfz htot hk
                        obtain ⟨Wn, hWn⟩ : ∃ Wn, wholeN C 0 r = Wn := ⟨_, rfl⟩
                        obtain ⟨Pn, hPn⟩ : ∃ Pn, placeN C 0 r = Pn := ⟨_, rfl⟩
                        rw [hWn] at hws hwl hwa e1 ⊢
                        rw [hPn] at hps e0
                        have wn40 : (Wn : Int) ≤ 40 := by omega
                        have wn00 : (0 : Int) ≤ (Wn : Int) := by omega
                        by_cases hcut : P ≤ C
                        · have hcutI : (P : Int) ≤ (C : Int) := by omega
                          rw [if_pos hcut] at hws hps
                          have HWS := Lib.hid hws
                          have HPS := Lib.hid hps
                          have HWA : Hid (Wn = i) := Lib.hid (hwa (by omega))
                          obtain ⟨jj, hj⟩ : ∃ jj, (A + P) % 40 = jj := ⟨_, rfl⟩
                          have HJ := Lib.hid hj
                          have x3 : Int.tmod ((A : Int) + (P : Int)) 40 = (jj : Int) := by rw [IntWalk.rem_in _ _ (by omega)]; omega
                          have j0 : (0 : Int) ≤ (jj : Int) := by omega
                          have j40 : (jj : Int) < 40 := by omega
                          clear hws hps hwl hwa hj hcut hP hWn hPn
                          go_wp2_with fail
                          go_roundw
                          case rel =>
                            (repeat apply Exists.intro)
                            refine And.intro ?_ rfl
                            have hk2 : Keeps he wr ((wr.setCell ⟨he, 0, none⟩ (.int .i64 (jj : Int))).setCell ⟨he, 1, none⟩ (.int .i64 (a1 + 1 + (i : Int) + 1))) := (Keeps.set _ ⟨he, 0, none⟩ _).trans (Keeps.set _ ⟨he, 1, none⟩ _)
                            have c1 : (wr.setCell ⟨he, 0, none⟩ (.int .i64 (jj : Int))).cell? ⟨he, 1, none⟩ = some (.int .i64 (a1 + 1 + (Wn : Int))) := by rw [World.cell?_setCell_other (h := by simp)]; exact e1
                            refine ⟨i + 1, by go_num, by omega, by rw [HR2.out, HTOT.out], by rw [HR2.out, HWS.out]; rfl, Lib.hid (by rw [HR2.out, HTOT.out]; exact HP40.out), Lib.hid ?_⟩
                            rw [HR2.out]
                            refine ⟨(HB.out.setCell (p := ⟨he, 0, none⟩) HNHE.out.2.2 _).setCell (p := ⟨he, 1, none⟩) HNHE.out.2.2 _, ⟨?_, ?_⟩, ⟨?_, ?_, fun j => by simpa using HFZ.out j⟩, bs, HRING.out.kept hk2 HNHE.out.1, HLAID.out⟩
                            · rw [hk2.cell (p := ⟨w.heap.size, 0, none⟩) HNHE.out.2.1]; exact d0
                            · rw [hk2.cell (p := ⟨w.heap.size, 1, none⟩) HNHE.out.2.1]; exact d1
                            · rw [World.cell?_setCell_other (h := by simp), HPS.out, HJ.out]
                              exact World.cell?_setCell_same wr _ _ e0
                            · rw [HWS.out, show a1 + 1 + ((Wn + 1 : Nat) : Int) = a1 + 1 + (i : Int) + 1 by have := HWA.out; omega]
                              exact World.cell?_setCell_same _ _ _ c1
                          case measure => simp [intOf]; omega
                        · have hcutI : ¬ (P : Int) ≤ (C : Int) := by omega
                          rw [if_neg hcut] at hws hps
                          have HWS := Lib.hid hws
                          have HPS := Lib.hid hps
                          clear hws hps hwl hwa hcut hP
                          go_wp2_with fail
                          go_roundw
                          case rel =>
                            (repeat apply Exists.intro)
                            refine And.intro ?_ rfl
                            refine ⟨i + 1, by go_num, by omega, by rw [HR2.out, HTOT.out], by rw [HR2.out, HWS.out, Nat.add_zero], Lib.hid (by rw [HR2.out, HTOT.out]; exact HP40.out), Lib.hid ?_⟩
                            rw [HR2.out]
                            refine ⟨HB.out, ⟨d0, d1⟩, ⟨?_, ?_, HFZ.out⟩, bs, HRING.out, HLAID.out⟩
                            · rw [HPS.out]; exact e0
                            · rw [HWS.out, Nat.add_zero]; exact e1
                          case measure => simp [intOf]; omega
          · have j1 : 40 < (totN r : Int) + ((m : Int) + 1) + 2 := by omega
            clear hfit
            have hH0' := HI.out.2.1.1
            have hH1' := HI.out.2.1.2
            have e0 := HI.out.2.2.1.1
            have e1 := HI.out.2.2.1.2.1
            obtain ⟨bs, hring, hlaid⟩ := HI.out.2.2.2
            have hrows := hring.rows HCB.out
            obtain ⟨hf1, hf2⟩ := whole_found hlaid HT.out (by have := HS.out; omega) HRS.out hring.1 hrows.2 HA40.out
            have cFind := logOk.find (A : Int) (a1 + 1) (by unfold I64; omega) (by unfold I64; omega) hrows.1
            have hLL := gotW_length C (a1 + 1) a4 r 0 0
            have hLA := fun j x => gotW_at C (a1 + 1) a4 r 0 0 j x
            rw [hf1, hf2] at cFind
            generalize gotW C (a1 + 1) a4 0 0 r = L at *
            generalize wholeN C 0 r = Wn at *
            subst hLL
            obtain ⟨pl, hpl⟩ : ∃ pl : Int, (((A + placeN C 0 r) % 40 : Nat) : Int) = pl := ⟨_, rfl⟩
            rw [hpl] at e0 cFind
            have cA := fun W => awake15 logOk W
            have HLA := Lib.hid hLA
            have HLL : Hid (L.length ≤ r.length) := Lib.hid (by
              rcases Nat.lt_or_ge r.length L.length with h | h
              · obtain ⟨n, hn, _⟩ := hLA r.length _ (List.getElem?_eq_getElem h)
                rw [List.getElem?_eq_none (Nat.le_refl _)] at hn
                cases hn
              · exact h)
            have HRZ : Hid (∀ j n, r[j]? = some n → ∃ z : Int, zs[j]? = some z ∧ n = (z % 5).toNat + 1) := Lib.hid (fun j n h => by
              rw [← hr] at h
              unfold rOf at h
              rw [List.getElem?_map, List.getElem?_take] at h
              split at h
              · obtain ⟨z, hz, rfl⟩ := Option.map_eq_some_iff.1 h
                exact ⟨z, hz, rfl⟩
              · cases h)
            have BWO := Lib.hid HI.out.1
            clear hring hlaid hrows hf1 hf2 hLA hpl HT HRS hr
            go_wp2_with (first
              | (go_at_call 13; refine (cA _).mono ?_; rintro e w7 ⟨rfl, hb7⟩; have B7 := Lib.hid (B3.out.trans (hb7.mono B3.out.size)); have t0 := cell_later hb7 s0; have t1 := cell_later hb7 s1; have g0 := cell_later hb7 q0; have g1 := cell_later hb7 q1; have L7 := Lib.hid (L3.out.later hb7); clear hb7)
              | (go_at_call 19; refine cFind.mono ?_; rintro e w3 ⟨ao3, p3, rfl, hL3, hb3⟩; obtain ⟨W3, hW3⟩ : ∃ W, w3.alloc (.cells #[.int .i64 pl, .int .i64 (a1 + 1 + (L.length : Int))] 40) = W := ⟨_, rfl⟩; have b3 : Below wo.heap.size wo W3 := (by rw [← hW3]; exact hb3.alloc hb3.size _); have B3 := Lib.hid (BWO.out.trans (b3.mono BWO.out.size)); have q0 := cell_later b3 e0; have q1 := cell_later b3 e1; have s0 : W3.cell? ⟨w3.heap.size, 0, none⟩ = some (.int .i64 pl) := (by rw [← hW3, World.cell?_alloc_new]; rfl); have s1 : W3.cell? ⟨w3.heap.size, 1, none⟩ = some (.int .i64 (a1 + 1 + (L.length : Int))) := (by rw [← hW3, World.cell?_alloc_new]; rfl); have L3 : Hid (LIs W3 ao3 L.length L) := Lib.hid (by rw [← hW3]; exact hL3.later ((Below.refl _ _).alloc (Nat.le_refl _) _)); clear hL3 hb3 b3))
            go_loopw [32] (fun iv wr => ∃ j : Nat, iv = .int .i64 (j : Int) ∧ j ≤ L.length ∧ Hid (Below w7.heap.size w7 wr)) (fun iv _ => L.length - (intOf iv).toNat)
            case atStart => exact ⟨0, rfl, Nat.zero_le _, Lib.hid (Below.refl _ _)⟩
            case round =>
              obtain ⟨j, rfl, hj, HBJ⟩ := hrel
              by_cases hjlt : j < L.length
              · obtain ⟨xb, xo, l, yad, yc, rfl, hl1, hx1, hw1⟩ := L7.out.at hjlt
                obtain ⟨n, hn, hln⟩ := HLA.out j l hl1
                obtain ⟨z, hz, hnz⟩ := HRZ.out j n hn
                rw [Nat.zero_add] at hln
                have hjr : j < len2 := by have h := (List.getElem?_eq_some_iff.1 hz).1; rw [HLZ.out.1] at h; exact h
                have hj40 : j ≤ 40 := by have h1 := HLL.out; have h2 := HRL.out; have h3 := HI40.out; omega
                have hz255 := HZ2.out.1.2.2.1 z (List.mem_of_getElem? hz)
                obtain ⟨qq, hq⟩ : ∃ qq : Nat, Int.tmod z 5 = (qq : Int) := ⟨(Int.tmod z 5).toNat, by rw [Int.tmod_eq_emod_of_nonneg hz255.1]; omega⟩
                have hq2 : (z % 5).toNat = qq ∧ qq ≤ 4 := by rw [Int.tmod_eq_emod_of_nonneg hz255.1] at hq; omega
                rw [hq2.1] at hnz
                have hll : l.length = qq + 1 := by rw [hln, List.length_map, List.length_range, hnz]
                obtain ⟨yb, yo, ya, ys, dad, dlen, dcap, rfl, hy0, hy1, _, hy2, hyA⟩ := hw1.at (i := 0) (by rw [hll]; omega)
                have hy00 : (ya, ys) = (60 + 7 * (j : Int) + ((0 : Nat) : Int), datW a4 j) := by
                  rw [hln, hnz, List.getElem?_map, List.getElem?_range (by omega)] at hy0
                  exact (Option.some.inj hy0).symm
                obtain ⟨rfl, rfl⟩ := Prod.mk.inj hy00
                obtain rfl : dlen = 64 := hyA.1.1.symm
                obtain ⟨pb, po, rfl, hpc⟩ := hyA.1.2.2.2.resolve_left (by decide)
                have hp0 := hpc 0 (by decide)
                have hp1 := hpc 1 (by decide)
                rw [show (datW a4 j).getD 0 0 = a4 from rfl] at hp0
                rw [show (datW a4 j).getD 1 0 = (j : Int) from rfl] at hp1
                rw [Nat.add_zero] at hp0
                rw [show yo + 0 * 2 = yo by omega, show (60 + 7 * (j : Int) + ((0 : Nat) : Int)) = 60 + 7 * (j : Int) by omega] at hy1
                rw [show yo + 0 * 2 + 1 = yo + 1 by omega] at hy2
                rw [hll] at hx1
                obtain ⟨zb', zo', hze, hzc'⟩ := HZ2.out.1.2.2.2.resolve_left (show len2 ≠ 0 by omega)
                cases hze
                have hzj := hzc' j hjr
                rw [show zs.getD j 0 = z by rw [List.getD_eq_getElem?_getD, hz]; rfl] at hzj
                have g1x := cell_later HBJ.out hx1
                have g2x := cell_later HBJ.out hy1
                have g3x := cell_later HBJ.out hy2
                have g4x := cell_later HBJ.out hp0
                have g5x := cell_later HBJ.out hp1
                have g6x := cell_later (B7.out.trans (HBJ.out.mono B7.out.size)) hzj
                have y1 : (j : Int) < (L.length : Int) := by omega
                have y2 : (0 : Int) ≤ (j : Int) := by omega
                have y3 : (j : Int) ≤ 40 := by omega
                have y4 : (j : Int) < (len2 : Int) := by omega
                have y5 : (qq : Int) ≤ 4 := by omega
                have y6 : (0 : Int) ≤ (qq : Int) := by omega
                have x1 : IntKind.i64.wrap (7 * (j : Int)) = 7 * (j : Int) := IntWalk.i64_in _ (by omega)
                have x2 : IntKind.i64.wrap (60 + 7 * (j : Int)) = 60 + 7 * (j : Int) := IntWalk.i64_in _ (by omega)
                have x3 : IntKind.i64.wrap ((qq : Int) + 1) = (qq : Int) + 1 := IntWalk.i64_in _ (by omega)
                have x4 : IntKind.i64.wrap (qq : Int) = (qq : Int) := IntWalk.i64_in _ (by omega)
                have x5 : IntKind.u8.wrap (j : Int) = (j : Int) := by show (j : Int) % 256 = j; omega
                clear hl1 hn hln hz hnz hj40 hz255 hq2 hll hy0 hyA hpc hzc' hzj hx1 hy1 hy2 hp0 hp1 hw1
                go_wp2_with fail
                go_big_quiet (fail)
                go_wp2_with fail
                go_roundw
                case rel => exact ⟨j + 1, by go_num, by omega, Lib.hid (below_drewN HBJ.out _)⟩
                case measure => simp [intOf]; omega
              · obtain rfl : j = L.length := by omega
                go_wp2_with fail
                go_ret
                exact ⟨rfl, B7.out.trans (HBJ.out.mono B7.out.size)⟩
        · obtain rfl : len2 = i := by omega
          have hH0' := HI.out.2.1.1
          have hH1' := HI.out.2.1.2
          have e0 := HI.out.2.2.1.1
          have e1 := HI.out.2.2.1.2.1
          obtain ⟨bs, hring, hlaid⟩ := HI.out.2.2.2
          have hrows := hring.rows HCB.out
          obtain ⟨hf1, hf2⟩ := whole_found hlaid HT.out (by have := HS.out; omega) HRS.out hring.1 hrows.2 HA40.out
          have cFind := logOk.find (A : Int) (a1 + 1) (by unfold I64; omega) (by unfold I64; omega) hrows.1
          have hLL := gotW_length C (a1 + 1) a4 r 0 0
          have hLA := fun j x => gotW_at C (a1 + 1) a4 r 0 0 j x
          rw [hf1, hf2] at cFind
          generalize gotW C (a1 + 1) a4 0 0 r = L at *
          generalize wholeN C 0 r = Wn at *
          subst hLL
          obtain ⟨pl, hpl⟩ : ∃ pl : Int, (((A + placeN C 0 r) % 40 : Nat) : Int) = pl := ⟨_, rfl⟩
          rw [hpl] at e0 cFind
          have cA := fun W => awake15 logOk W
          have HLA := Lib.hid hLA
          have HLL : Hid (L.length ≤ r.length) := Lib.hid (by
            rcases Nat.lt_or_ge r.length L.length with h | h
            · obtain ⟨n, hn, _⟩ := hLA r.length _ (List.getElem?_eq_getElem h)
              rw [List.getElem?_eq_none (Nat.le_refl _)] at hn
              cases hn
            · exact h)
          have HRZ : Hid (∀ j n, r[j]? = some n → ∃ z : Int, zs[j]? = some z ∧ n = (z % 5).toNat + 1) := Lib.hid (fun j n h => by
            rw [← hr] at h
            unfold rOf at h
            rw [List.getElem?_map, List.getElem?_take] at h
            split at h
            · obtain ⟨z, hz, rfl⟩ := Option.map_eq_some_iff.1 h
              exact ⟨z, hz, rfl⟩
            · cases h)
          have BWO := Lib.hid HI.out.1
          clear hring hlaid hrows hf1 hf2 hLA hpl HT HRS hr
          go_wp2_with (first
            | (go_at_call 13; refine (cA _).mono ?_; rintro e w7 ⟨rfl, hb7⟩; have B7 := Lib.hid (B3.out.trans (hb7.mono B3.out.size)); have t0 := cell_later hb7 s0; have t1 := cell_later hb7 s1; have g0 := cell_later hb7 q0; have g1 := cell_later hb7 q1; have L7 := Lib.hid (L3.out.later hb7); clear hb7)
            | (go_at_call 19; refine cFind.mono ?_; rintro e w3 ⟨ao3, p3, rfl, hL3, hb3⟩; obtain ⟨W3, hW3⟩ : ∃ W, w3.alloc (.cells #[.int .i64 pl, .int .i64 (a1 + 1 + (L.length : Int))] 40) = W := ⟨_, rfl⟩; have b3 : Below wo.heap.size wo W3 := (by rw [← hW3]; exact hb3.alloc hb3.size _); have B3 := Lib.hid (BWO.out.trans (b3.mono BWO.out.size)); have q0 := cell_later b3 e0; have q1 := cell_later b3 e1; have s0 : W3.cell? ⟨w3.heap.size, 0, none⟩ = some (.int .i64 pl) := (by rw [← hW3, World.cell?_alloc_new]; rfl); have s1 : W3.cell? ⟨w3.heap.size, 1, none⟩ = some (.int .i64 (a1 + 1 + (L.length : Int))) := (by rw [← hW3, World.cell?_alloc_new]; rfl); have L3 : Hid (LIs W3 ao3 L.length L) := Lib.hid (by rw [← hW3]; exact hL3.later ((Below.refl _ _).alloc (Nat.le_refl _) _)); clear hL3 hb3 b3))
          go_loopw [32] (fun iv wr => ∃ j : Nat, iv = .int .i64 (j : Int) ∧ j ≤ L.length ∧ Hid (Below w7.heap.size w7 wr)) (fun iv _ => L.length - (intOf iv).toNat)
          case atStart => exact ⟨0, rfl, Nat.zero_le _, Lib.hid (Below.refl _ _)⟩
          case round =>
            obtain ⟨j, rfl, hj, HBJ⟩ := hrel
            by_cases hjlt : j < L.length
            · obtain ⟨xb, xo, l, yad, yc, rfl, hl1, hx1, hw1⟩ := L7.out.at hjlt
              obtain ⟨n, hn, hln⟩ := HLA.out j l hl1
              obtain ⟨z, hz, hnz⟩ := HRZ.out j n hn
              rw [Nat.zero_add] at hln
              have hjr : j < len2 := by have h := (List.getElem?_eq_some_iff.1 hz).1; rw [HLZ.out.1] at h; exact h
              have hj40 : j ≤ 40 := by have h1 := HLL.out; have h2 := HRL.out; have h3 := HI40.out; omega
              have hz255 := HZ2.out.1.2.2.1 z (List.mem_of_getElem? hz)
              obtain ⟨qq, hq⟩ : ∃ qq : Nat, Int.tmod z 5 = (qq : Int) := ⟨(Int.tmod z 5).toNat, by rw [Int.tmod_eq_emod_of_nonneg hz255.1]; omega⟩
              have hq2 : (z % 5).toNat = qq ∧ qq ≤ 4 := by rw [Int.tmod_eq_emod_of_nonneg hz255.1] at hq; omega
              rw [hq2.1] at hnz
              have hll : l.length = qq + 1 := by rw [hln, List.length_map, List.length_range, hnz]
              obtain ⟨yb, yo, ya, ys, dad, dlen, dcap, rfl, hy0, hy1, _, hy2, hyA⟩ := hw1.at (i := 0) (by rw [hll]; omega)
              have hy00 : (ya, ys) = (60 + 7 * (j : Int) + ((0 : Nat) : Int), datW a4 j) := by
                rw [hln, hnz, List.getElem?_map, List.getElem?_range (by omega)] at hy0
                exact (Option.some.inj hy0).symm
              obtain ⟨rfl, rfl⟩ := Prod.mk.inj hy00
              obtain rfl : dlen = 64 := hyA.1.1.symm
              obtain ⟨pb, po, rfl, hpc⟩ := hyA.1.2.2.2.resolve_left (by decide)
              have hp0 := hpc 0 (by decide)
              have hp1 := hpc 1 (by decide)
              rw [show (datW a4 j).getD 0 0 = a4 from rfl] at hp0
              rw [show (datW a4 j).getD 1 0 = (j : Int) from rfl] at hp1
              rw [Nat.add_zero] at hp0
              rw [show yo + 0 * 2 = yo by omega, show (60 + 7 * (j : Int) + ((0 : Nat) : Int)) = 60 + 7 * (j : Int) by omega] at hy1
              rw [show yo + 0 * 2 + 1 = yo + 1 by omega] at hy2
              rw [hll] at hx1
              obtain ⟨zb', zo', hze, hzc'⟩ := HZ2.out.1.2.2.2.resolve_left (show len2 ≠ 0 by omega)
              cases hze
              have hzj := hzc' j hjr
              rw [show zs.getD j 0 = z by rw [List.getD_eq_getElem?_getD, hz]; rfl] at hzj
              have g1x := cell_later HBJ.out hx1
              have g2x := cell_later HBJ.out hy1
              have g3x := cell_later HBJ.out hy2
              have g4x := cell_later HBJ.out hp0
              have g5x := cell_later HBJ.out hp1
              have g6x := cell_later (B7.out.trans (HBJ.out.mono B7.out.size)) hzj
              have y1 : (j : Int) < (L.length : Int) := by omega
              have y2 : (0 : Int) ≤ (j : Int) := by omega
              have y3 : (j : Int) ≤ 40 := by omega
              have y4 : (j : Int) < (len2 : Int) := by omega
              have y5 : (qq : Int) ≤ 4 := by omega
              have y6 : (0 : Int) ≤ (qq : Int) := by omega
              have x1 : IntKind.i64.wrap (7 * (j : Int)) = 7 * (j : Int) := IntWalk.i64_in _ (by omega)
              have x2 : IntKind.i64.wrap (60 + 7 * (j : Int)) = 60 + 7 * (j : Int) := IntWalk.i64_in _ (by omega)
              have x3 : IntKind.i64.wrap ((qq : Int) + 1) = (qq : Int) + 1 := IntWalk.i64_in _ (by omega)
              have x4 : IntKind.i64.wrap (qq : Int) = (qq : Int) := IntWalk.i64_in _ (by omega)
              have x5 : IntKind.u8.wrap (j : Int) = (j : Int) := by show (j : Int) % 256 = j; omega
              clear hl1 hn hln hz hnz hj40 hz255 hq2 hll hy0 hyA hpc hzc' hzj hx1 hy1 hy2 hp0 hp1 hw1
              go_wp2_with fail
              go_big_quiet (fail)
              go_wp2_with fail
              go_roundw
              case rel => exact ⟨j + 1, by go_num, by omega, Lib.hid (below_drewN HBJ.out _)⟩
              case measure => simp [intOf]; omega
            · obtain rfl : j = L.length := by omega
              go_wp2_with fail
              go_ret
              exact ⟨rfl, B7.out.trans (HBJ.out.mono B7.out.size)⟩

/-! ### The law's step -/
set_option maxRecDepth 100000 in
theorem lifted (os : Os) (started : os.Started) (H : Type) (enc : TypeId × Value → H) :
    ReturnsInHanded {} Try.checked os 7 .any (Rows.logWholeSpec.pre6 enc Try.prog Try.f7 Rows.logWholeRow.domain false) (Rows.logWholeSpec.post enc Try.prog Try.f7 false true false false) := by
  refine returnsInHanded_of_change_sized (C := Try.checked) own started (by kernel_rfl) Try.func7
    (ChangeSpec.witness6 (enc := enc) (C := Try.checked) false ⟨#[], #[.int .u8 0, .int .u16 0, .slice none 0 0, .int .u8 0, .int .u8 0], []⟩ 8 (by kernel_rfl) (by kernel_rfl) (by kernel_rfl) (by kernel_rfl)) ?_
  intro W base args ds gs before hval0 hW hcnd hsz0 _
  have hsz : (DataW.weightsEach Try.prog (Try.f7.params.toList ++ Rows.logWholeSpec.plain.varTypes Try.prog) (ds ++ gs)).all (· ≤ reachBytes) = true := hsz0
  clear hsz0
  have hval : ∀ (j : Nat) t v, Try.f7.params[j]? = some t → args[j]? = some v → Value.okWide Try.prog W .any base t v := hval0
  have hW' := hW
  obtain ⟨p, q, hA0, hV, rfl, hfz, hnd⟩ := hW
  have hA : DataW.TrodAll enc Try.prog W 0 (fun _ => true) true Try.f7.params.toList args.toList ds p := hA0
  rw [Try.params7] at hA hval hsz
  obtain ⟨v0, vs0, d0, ds0, p0, q0, hargs, rfl, rfl, h0, r0⟩ := trodAll_cons hA
  obtain ⟨v1, vs1, d1, ds1, p1, q1, rfl, rfl, rfl, h1, r1⟩ := trodAll_cons r0
  obtain ⟨v2, vs2, d2, ds2, p2, q2, rfl, rfl, rfl, h2, r2⟩ := trodAll_cons r1
  obtain ⟨v3, vs3, d3, ds3, p3, q3, rfl, rfl, rfl, h3, r3⟩ := trodAll_cons r2
  obtain ⟨v4, vs4, d4, ds4, p4, q4, rfl, rfl, rfl, h4, r4⟩ := trodAll_cons r3
  obtain ⟨rfl, rfl, rfl⟩ := trodAll_nil r4
  obtain rfl : args = #[v0, v1, v2, v3, v4] := by cases args; simp_all
  obtain ⟨rfl, rfl⟩ := trodVars_none hV
  have k0 := h0
  have lt0 : ∀ x ∈ p0, x.block < W.heap.size := by obtain ⟨m, hm⟩ := k0; exact DataW.trod_lt m _ _ _ hm
  obtain ⟨a0, rfl, _, _, w0⟩ := open_int Try.underlying5 (hval 0 5 v0 rfl rfl) h0
  have k1 := h1
  have lt1 : ∀ x ∈ p1, x.block < W.heap.size := by obtain ⟨m, hm⟩ := k1; exact DataW.trod_lt m _ _ _ hm
  obtain ⟨a1, rfl, _, _, w1⟩ := open_int Try.underlying48 (hval 1 48 v1 rfl rfl) h1
  have k2 := h2
  have lt2 : ∀ x ∈ p2, x.block < W.heap.size := by obtain ⟨m, hm⟩ := k2; exact DataW.trod_lt m _ _ _ hm
  obtain ⟨a2, len2, cap2, rfl⟩ := okWide_slice Try.underlying25 (hval 2 25 v2 rfl rfl)
  obtain ⟨z2, w2, rch2⟩ := open_bytes k2 (fun e s hd => sized_slice hsz (j := 2) (t := 25) (e := 5) rfl (by rw [hd]; rfl) Try.underlying25)
  have k3 := h3
  have lt3 : ∀ x ∈ p3, x.block < W.heap.size := by obtain ⟨m, hm⟩ := k3; exact DataW.trod_lt m _ _ _ hm
  obtain ⟨a3, rfl, _, _, w3⟩ := open_int Try.underlying5 (hval 3 5 v3 rfl rfl) h3
  have k4 := h4
  have lt4 : ∀ x ∈ p4, x.block < W.heap.size := by obtain ⟨m, hm⟩ := k4; exact DataW.trod_lt m _ _ _ hm
  obtain ⟨a4, rfl, _, _, w4⟩ := open_int Try.underlying5 (hval 4 5 v4 rfl rfl) h4
  clear hA0 hval0
  refine (walk a0 a1 a2 len2 cap2 z2 a3 a4 W w0 w1 w2 rch2 w3 w4).mono fun e W' ⟨he, bel⟩ => ?_
  subst he
  exact ⟨_, rfl, _, _, _, [], _, [], hW', trodAll_mk1 (shut_bool Try.underlying4 _), (trodAll_cons_mk (Below.trod laidOut (by kernel_rfl) (of_decide_eq_true (by kernel_rfl)) k0 bel lt0) (trodAll_cons_mk (Below.trod laidOut (by kernel_rfl) (of_decide_eq_true (by kernel_rfl)) k1 bel lt1) (trodAll_cons_mk (Below.trod laidOut (by kernel_rfl) (of_decide_eq_true (by kernel_rfl)) k2 bel lt2) (trodAll_cons_mk (Below.trod laidOut (by kernel_rfl) (of_decide_eq_true (by kernel_rfl)) k3 bel lt3) (trodAll_cons_mk (Below.trod laidOut (by kernel_rfl) (of_decide_eq_true (by kernel_rfl)) k4 bel lt4) trodAll_mk0))))), rfl, bel.frame _, fun h => by cases h⟩

theorem over : Rows.logWholeRow.holds Try.pinned (OpenSpec.ofChange Rows.logWholeSpec) :=
  OpenClaim.holds_of_wide 7 Try.f7 rfl rfl rfl rfl rfl rfl rfl ⟨rfl, rfl, rfl, rfl, rfl⟩ rfl rfl rfl rfl rfl (by kernel_rfl) Try.func7 (by kernel_rfl)
    (of_decide_eq_true (by kernel_rfl)) (by unfold Func.isWrapper; first | (rw [if_pos (by decide +kernel)]; kernel_rfl) | (rw [if_neg (by decide +kernel)]; exact ⟨rfl, rfl⟩))
    (fun os started H enc _ => lifted os started H enc)

/-- The statement. -/
theorem proved : Rows.LogWholeSaid := over
end Go.Proofs.Ytpmggbdmoopkfaa.logWhole
