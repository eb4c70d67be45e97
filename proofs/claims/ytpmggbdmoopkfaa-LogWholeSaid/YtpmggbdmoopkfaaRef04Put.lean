/-
  Proved here: what the document's own making of sealed blocks (drydockref04: Put, Seal) answers.
  The conditions stand at each theorem.
-/
import Derived.Test.YtpmggbdmoopkfaaRef04P
import Derived.Test.YtpmggbdmoopkfaaRef03
import Derived.Deep.RegionWith
import Derived.Deep.QuietTactic
import Derived.BigQuiet
namespace Go.Proofs.Ytpmggbdmoopkfaa
open Go.RowKit

set_option maxHeartbeats 400000 in
theorem Seal04_any (ao : Option Addr) (len cap : Nat) (zs : List Int) (w : World) (hA : Arg w ao len cap zs) :
    Calls Try.prog 29 #[.slice ao len cap] w (Gives w.heap.size w (sealOf sumS zs)) := by
  obtain ⟨hB, hnil, _, hlen⟩ := hA
  have hown := World.ownsRow_made (base := w.heap.size) (e := 5) (size := 1) w #[] 0 (Nat.le_refl _) (by decide) rfl
  have hb0 : Below w.heap.size w (w.alloc (.cells #[] 5)) := (Below.refl _ _).alloc (Nat.le_refl _) _
  have hA0 := hB.later hb0
  have HL := Lib.hid hB.1
  have HZ := Lib.hid hB.2.2.1
  have HN := Lib.hid hnil
  clear hB hnil
  go_enter Try.func29, Try.ntmps29
  go_wp2_with (at_builtin; refine wp_append_bytes rfl (.tmp 4) (.tmp 5) rfl w.heap.size 0 _ [] rfl hown ao len cap zs rfl hA0 HN.out (by omega) (by simp) ?_; intro v1 w1 hown1 hb1; have HB1 := Lib.hid (hb0.trans hb1); have HO1 := Lib.hid hown1; clear hown1 hb1 hown hA0)
  have HF : Hid (∃ ao1 c1, v1 = .slice ao1 len c1) := Lib.hid (by
    have h := HO1.out
    rw [Nat.zero_add, List.nil_append] at h
    obtain ⟨a, c, hv, _⟩ := owns_bts h HZ.out (by omega)
    exact ⟨a, c, hv⟩)
  go_loopw [3] (fun vv wr => ∃ (j : Nat) (ao1 : Option Addr) (c1 : Nat), (j = 0 ∨ len + j ≤ 60) ∧ vv = .slice ao1 (len + j) c1 ∧ Hid (wr.ownsRow w.heap.size 5 1 (.slice ao1 (len + j) c1) (len + j) ((zs ++ List.replicate j 0).map (Value.int .u8))) ∧ Hid (Below w.heap.size w wr)) (fun vv _ => 60 - (match vv with | .slice _ n _ => n | _ => 0))
  case atStart =>
    obtain ⟨a, c, hv⟩ := HF.out
    refine ⟨0, a, c, Or.inl rfl, hv, Lib.hid ?_, HB1⟩
    have h := HO1.out
    rw [hv, Nat.zero_add, List.nil_append] at h
    simpa using h
  case round =>
    obtain ⟨j, ao1, c1, hj, rfl, HR, HB⟩ := hrel
    by_cases hlt : len + j < 60
    · have i1 : ((len + j : Nat) : Int) < 60 := by omega
      have HS : Hid (w.heap.size ≤ wr.heap.size + 1) := Lib.hid (by have := HB.out.size; omega)
      go_wp2_with (at_builtin; refine wp_append_bytes rfl (.tmp 10) (.tmp 11) rfl w.heap.size (len + j) _ _ rfl (HR.out.alloc _) (some ⟨wr.heap.size, 0, none⟩) 1 1 [0] rfl (one_bts wr 0 (by decide)) (by simp) (by omega) (by simpa using HS.out) ?_; intro v1 w1 hown1 hb1; have HO2 := Lib.hid hown1; have HB2 := Lib.hid hb1; clear hown1 hb1)
      have HF2 : Hid (∃ ao2 c2, v1 = .slice ao2 (len + (j + 1)) c2) := Lib.hid (by
        have h := HO2.out
        have e : zs ++ List.replicate j 0 ++ [0] = zs ++ List.replicate (j + 1) 0 := by rw [List.append_assoc, ← List.replicate_succ']
        rw [← List.map_append, e] at h
        obtain ⟨a, c, hv, _⟩ := owns_bts h (by
          intro z hz
          rcases List.mem_append.1 hz with hz | hz
          · exact HZ.out z hz
          · rw [List.eq_of_mem_replicate hz]; decide) (by omega)
        exact ⟨a, c, hv⟩)
      obtain ⟨a, c, hv⟩ := HF2.out
      refine ⟨⟨j + 1, a, c, by omega, hv, Lib.hid ?_, Lib.hid ((HB.out.alloc (by have := HB.out.size; omega) _).trans HB2.out)⟩, ?_⟩
      · have h := HO2.out
        have e : zs ++ List.replicate j 0 ++ [0] = zs ++ List.replicate (j + 1) 0 := by rw [List.append_assoc, ← List.replicate_succ']
        rw [← List.map_append, e, hv] at h
        exact h
      · rw [hv]
        show 60 - (len + (j + 1)) < 60 - (len + j)
        omega
    · have HT : Hid ((zs ++ List.replicate j 0).take 60 = (zs ++ List.replicate (60 - zs.length) 0).take 60) := Lib.hid (by
        have hl := HL.out
        rcases hj with rfl | hj
        · have e : 60 - zs.length = 0 := by omega
          rw [e]
        · have e : 60 - zs.length = j := by omega
          rw [e])
      have HLL : Hid (∀ z ∈ (zs ++ List.replicate j 0).take 60, 0 ≤ z ∧ z ≤ 255) := Lib.hid (by
        intro z hz
        rcases List.mem_append.1 (List.mem_of_mem_take hz) with hz | hz
        · exact HZ.out z hz
        · rw [List.eq_of_mem_replicate hz]; decide)
      obtain ⟨g, c2, hv, _, _⟩ := HR.out.form (by omega)
      simp only [Value.slice.injEq, true_and] at hv
      obtain ⟨rfl, rfl⟩ := hv
      have HR2 := Lib.hid (owns_take (k := 60) HR.out (by omega))
      rw [← List.map_take, HT.out] at HR2
      rw [HT.out] at HLL
      have hcap : len + j ≤ c1 := by
        rcases HR.out.2 with ⟨h, _⟩ | ⟨g', cap', cur, h, _, _, hc, _⟩
        · cases h
        · simp only [Value.slice.injEq, Option.some.injEq, Addr.mk.injEq, and_true, true_and] at h
          omega
      obtain ⟨ao3, c3, hv3, hB3⟩ := owns_bts HR2.out HLL.out (by decide)
      simp only [Value.slice.injEq, true_and] at hv3
      obtain ⟨rfl, rfl⟩ := hv3
      have HG : Hid (sealOf sumS zs = (zs ++ List.replicate (60 - zs.length) 0).take 60 ++ leB (sumS ((zs ++ List.replicate (60 - zs.length) 0).take 60)) 4) := Lib.hid rfl
      generalize (zs ++ List.replicate (60 - zs.length) 0).take 60 = L at *
      have cS := refSum_any (some ⟨g, 0, none⟩) 60 c1 L wr.drew ((show Bts wr.drew (some ⟨g, 0, none⟩) 60 L from hB3))
      have hSb := sumS_bounds L
      have cP := Put04_any w.heap.size (.slice (some ⟨g, 0, none⟩) 60 c1) 60 L (sumS L) 4 wr.drew HR2.out.drew (show w.heap.size ≤ wr.heap.size from HB.out.size) hSb.1 (by omega) (by decide) (by decide)
      rw [show ((4 : Nat) : Int) = 4 from rfl] at cP
      generalize sumS L = S at *
      clear hB3
      have i1 : ¬ ((len + j : Nat) : Int) < 60 := by omega
      have i2 : (60 : Int) ≤ (c1 : Int) := by omega
      have hw : IntKind.i64.wrap S = S := IntWalk.i64_in _ (by omega)
      go_wp2_with fail
      go_region_with (first | (go_at_call 45; refine cS.mono ?_; rintro e w' ⟨rfl, rfl⟩) | (go_at_call 28; refine cP.mono ?_; rintro e w5 ⟨v5, rfl, h5, b5⟩; have H5 := Lib.hid h5; have B5 := Lib.hid b5; clear h5 b5))
      clear hw
      go_wp2_with fail
      go_ret
      refine ⟨_, rfl, ?_, HB.out.drew.trans B5.out⟩
      rw [HG.out]
      exact fresh_of_owns H5.out (fun z hz => (List.mem_append.1 hz).elim (HLL.out z) (leB_bytes _ _ z)) (by decide)

theorem sealOf_bytes {sum : List Int → Int} {zs : List Int} (hz : ∀ z ∈ zs, 0 ≤ z ∧ z ≤ 255) : ∀ z ∈ sealOf sum zs, 0 ≤ z ∧ z ≤ 255 := by
  intro z h
  unfold sealOf at h
  rcases List.mem_append.1 h with h | h
  · rcases List.mem_append.1 (List.mem_of_mem_take h) with h | h
    · exact hz z h
    · rw [List.eq_of_mem_replicate h]; decide
  · exact leB_bytes _ _ z h

end Go.Proofs.Ytpmggbdmoopkfaa
