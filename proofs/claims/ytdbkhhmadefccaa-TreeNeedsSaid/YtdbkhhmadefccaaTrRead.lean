/-
  Proved here: what the landed tree's Read answers of a map that is there.
  The conditions stand at each theorem.
-/
import Derived.Test.YtdbkhhmadefccaaTrGather
import Derived.Test.YtdbkhhmadefccaaTrOwn
import Derived.Test.YtdbkhhmadefccaaTrPlanW
namespace Go.Proofs.Ytdbkhhmadefccaa
open Go.RowKit
set_option linter.unusedVariables false
set_option linter.unusedSimpArgs false

theorem full_join {M d sg u0 u1 u2 o : List Int} (h : Full M d sg u0 u1 u2 o) : joinL M = d ++ (sg ++ (u0 ++ (u1 ++ u2))) := by
  have e : joinL M = M.take 4 ++ (pageL M 0 ++ (pageL M 2 ++ (pageL M 3 ++ (pageL M 4 ++ [])))) := rfl
  rw [e, h.dir, h.p0, h.p2, h.p3, h.p4, List.append_nil]

theorem trimL_mem {zs : List Int} : ∀ z ∈ trimL zs, z ∈ zs := fun z h => by
  obtain ⟨n, e⟩ := trim_prefix zs
  rw [e]
  exact List.mem_append_left _ h

theorem trimmed_arg {w : World} {ja : Option Addr} {jc : Nat} {J ps : List Int} (h : IArg w ja J.length jc J) (e : trimL J = ps) : IArg w ja ps.length jc ps := by
  have hl : ps.length ≤ J.length := by
    rw [← e]
    obtain ⟨n, hn⟩ := trim_prefix J
    have := congrArg List.length hn
    rw [List.length_append] at this
    omega
  have h2 := h.takeAny hl
  have e2 : J.take ps.length = ps := by rw [← e]; exact trim_take
  rwa [e2] at h2

set_option maxRecDepth 100000 in
set_option maxHeartbeats 6400000 in
theorem Read_any {w : World} {ao : Option Addr} {m cap : Nat} {ws : List (Int × List Int)} {x0 x1 x2 x3 s t q0 q1 q2 : Int} {sg u0 u1 u2 ps os : List Int} (hW : WIs w ao m ws)
    (h1 : pageAt ws s = some sg) (h2 : pageAt ws t = some ([q0, q1, q2] ++ List.replicate 27 0)) (h3 : pageAt ws q0 = some u0) (h4 : pageAt ws q1 = some u1) (h5 : pageAt ws q2 = some u2) (hI : (∀ z ∈ [x0, x1, x2, x3], I64 z) ∧ I64 s ∧ I64 t)
    (hp : trimL ([x0, x1, x2, x3] ++ (sg ++ (u0 ++ (u1 ++ u2)))) = ps) (ho : nzL [s, t, q0, q1, q2] = os) (h96 : ps.length ≤ 96) (ha : apartL (ps ++ os) = true) :
    Calls Try.prog 15 #[nodeV 1 x0 x1 x2 x3 s t, .slice ao m cap] w fun e w' => ∃ v u, e = .returned (.tuple #[v, u, .int .i64 0]) ∧ FreshI w' w.heap.size v ps ∧ FreshI w' w.heap.size u os ∧ Below w.heap.size w w' := by
  have HG : Hid (∀ W, Below w.heap.size w W → Calls Try.prog 30 #[nodeV 1 x0 x1 x2 x3 s t, .slice ao m cap] W fun e w' => ∃ g M, e = .returned (.tuple #[.pointer (some ⟨g, 0, none⟩), .bool true]) ∧ OwnV W.heap.size W g (ints M) w' ∧ Full M [x0, x1, x2, x3] sg u0 u1 u2 [s, t, q0, q1, q2]) := Lib.hid (fun W hB => gather_any (cap := cap) (hW.later hB) h1 h2 h3 h4 h5 hI)
  have HF : Hid (∀ M, Full M [x0, x1, x2, x3] sg u0 u1 u2 [s, t, q0, q1, q2] → trimL (joinL M) = ps ∧ nzL ((M.drop 154).take 5) = os) := Lib.hid (fun M hM => ⟨by rw [full_join hM]; exact hp, by rw [hM.own]; exact ho⟩)
  have hol : os.length ≤ 5 := by rw [← ho]; exact nz_le _
  have h961 : ¬ (96 : Int) < (ps.length : Int) := by omega
  have HP96 := Lib.hid h96
  have HOL := Lib.hid hol
  have HA := Lib.hid ha
  have HB0 : Hid (∀ o, Below w.heap.size w (w.alloc o)) := Lib.hid (fun o => (Below.refl _ _).alloc (Nat.le_refl _) _)
  have HAP : Hid (∀ (W : World) ja jc ua uc, IArg W ja ps.length jc ps → IArg W ua os.length uc os → Calls Try.prog 18 #[.slice (some ⟨W.heap.size, 0, none⟩) (2 : Nat) (2 : Nat)] (W.alloc (.cells #[.slice ja ps.length jc, .slice ua os.length uc] 22)) fun e w' => e = .returned (.bool true) ∧ Below (W.alloc (.cells #[.slice ja ps.length jc, .slice ua os.length uc] 22)).heap.size (W.alloc (.cells #[.slice ja ps.length jc, .slice ua os.length uc] 22)) w') := Lib.hid (fun W ja jc ua uc a1 a2 => by
    have h := apart_any W.heap.size 0 2 2 [ps, os] _ rfl (lists_two a1 a2 22) (by
      show ps.length + (os.length + 0) ≤ 10000
      omega) (by decide)
    rw [show [ps, os].flatten = ps ++ os from by simp, ha] at h
    exact h)
  clear hW h1 h2 h3 h4 h5 hI hp ho ha h96 hol
  unfold nodeV nodeCs at *
  go_enter Try.func15, Try.ntmps15
  go_wp2_with (first
    | (go_at_call 30; refine (HG.out _ (HB0.out _)).mono ?_; rintro e w2 ⟨g, M, rfl, hO, hM⟩; have HM := Lib.hid hM; have HC2 := Lib.hid (chart_of_own hO hM.len); have HB2 := Lib.hid ((HB0.out (.cells (nodeCs 1 x0 x1 x2 x3 s t).toArray 32)).trans (hO.2.2.2.mono (by simp))); clear hO hM)
    | (go_at_call 32; refine (joined_any g M _ HC2.out HM.out.i64).mono ?_; rintro e w3 ⟨v3, rfl, hf, hb⟩; have HJ3 := Lib.hid hf; have HB3 := Lib.hid hb; have HB03 := Lib.hid (HB2.out.trans (hb.mono HB2.out.size)); obtain ⟨ja, jc, rfl, hja, jf⟩ := hf; have HJA := Lib.hid hja; have HJF := Lib.hid jf; clear hja jf hb)
    | (go_at_call 31; refine (trimmed_any ja _ jc (joinL M) _ HJA.out).mono ?_; rintro e w4 ⟨rfl, rfl⟩; rw [(HF.out M HM.out).1])
    | (go_at_call 33; refine (ownC_any g M _ (HC2.out.later HB3.out) HM.out.i64).mono ?_; rintro e w5 ⟨v5, rfl, hf, hb⟩; rw [(HF.out M HM.out).2] at hf; have HU5 := Lib.hid hf; obtain ⟨ua, uc, rfl, hua, -⟩ := hf; have HUA := Lib.hid hua; have HPA := Lib.hid ((trimmed_arg HJA.out (HF.out M HM.out).1).later hb); clear hua; have HB5 := Lib.hid hb; have HB05 := Lib.hid (HB03.out.trans (hb.mono HB03.out.size)); clear hb)
    | (go_at_call 18; refine (HAP.out _ _ _ _ _ HPA.out HUA.out).mono ?_; rintro e w6 ⟨rfl, hb⟩; have HB6 := Lib.hid hb; clear hb))
  have HB56 := Lib.hid (((Below.refl w5.heap.size w5).alloc (Nat.le_refl _) (.cells #[.slice ja ps.length jc, .slice ua os.length uc] 22)).trans (HB6.out.mono (by simp)))
  have HEND : Hid (FreshI w6 w.heap.size (.slice ja ps.length jc) ps ∧ FreshI w6 w.heap.size (.slice ua os.length uc) os ∧ Below w.heap.size w w6) := Lib.hid (by
    refine ⟨⟨ja, jc, rfl, HPA.out.later HB56.out, ?_⟩, (HU5.out.later HB56.out).mono (by have := HB03.out.size; omega), HB05.out.trans (HB56.out.mono HB05.out.size)⟩
    rcases HJF.out with h | ⟨g', off, h, hg⟩
    · left
      have := (HF.out M HM.out).1
      rw [h] at this
      rw [← this]
      rfl
    · exact Or.inr ⟨g', off, h, Nat.le_trans HB2.out.size hg⟩)
  go_ret3
  exact ⟨_, _, rfl, HEND.out⟩

end Go.Proofs.Ytdbkhhmadefccaa
