/-
  Proved here: what the document's own answer says of any bytes (Decode).
  The conditions stand at each theorem.
-/
import Derived.Test.YtkpgefjbhimmgaaEntRefE
namespace Go.Proofs.Ytkpgefjbhimmgaa
open Go.RowKit
set_option linter.unusedVariables false
set_option linter.unusedSimpArgs false

theorem not_ent {zs : List Int} (h : isEnt zs = false) : getEnt zs = [] ∧ getEntErr zs = 2 := by
  unfold getEnt getEntErr
  rw [h]
  exact ⟨rfl, rfl⟩

theorem ent_long {zs : List Int} {i : Nat} (hi : (i : Int) < zs.getD 0 0) (h : 17 < zs.getD (3 + 19 * i) 0) : isEnt zs = false := by
  rw [← Bool.not_eq_true]
  intro hs
  obtain ⟨a, b⟩ := isEnt_block hs
  have hl : (readEnt zs).length = (zs.getD 0 0).toNat := by unfold readEnt; simp
  have hx : (readEnt zs)[i]? = some (readEnt zs)[i] := List.getElem?_eq_getElem (by omega)
  have hsz := ent_size a hx
  have h17 := (named_size ((sound_one a).2 (readEnt zs)[i] (List.getElem_mem _)).2.2).2
  rw [b] at hsz
  omega

theorem rd2_ways {zs : List Int} (h64 : zs.length = 64) (h3 : zs.getD 0 0 ≤ 3) : (soundE [readEnt zs] = true ∧ entBlock (readEnt zs) = zs ∧ getEnt zs = readEnt zs ∧ getEntErr zs = 0) ∨ (soundE [readEnt zs] = true ∧ entBlock (readEnt zs) ≠ zs ∧ getEnt zs = [] ∧ getEntErr zs = 2) ∨ (soundE [readEnt zs] = false ∧ getEnt zs = [] ∧ getEntErr zs = 2) := by
  have hi : isEnt zs = (soundE [readEnt zs] && decide (entBlock (readEnt zs) = zs)) := by
    unfold isEnt
    rw [decide_eq_true ⟨h64, h3⟩, Bool.true_and]
  by_cases hs : soundE [readEnt zs] = true
  · by_cases hb : entBlock (readEnt zs) = zs
    · left
      rw [hs, decide_eq_true hb] at hi
      unfold getEnt getEntErr
      rw [hi]
      exact ⟨hs, hb, rfl, rfl⟩
    · right; left
      rw [hs, decide_eq_false hb] at hi
      exact ⟨hs, hb, not_ent hi⟩
  · right; right
    have hs : soundE [readEnt zs] = false := by simpa using hs
    rw [hs] at hi
    exact ⟨hs, not_ent hi⟩

theorem readEnt_small {zs : List Int} (hz : ∀ z ∈ zs, 0 ≤ z ∧ z ≤ 255) (h : zs.length = 64) : smallE (readEnt zs) := by
  intro x hx
  unfold readEnt at hx
  obtain ⟨i, _, rfl⟩ := List.mem_map.1 hx
  unfold readAt
  dsimp only
  refine ⟨?_, by rw [str_size, List.length_take, List.length_drop]; omega⟩
  by_cases hl : 2 + 19 * i < zs.length
  · have := hz _ (getD_mem hl); omega
  · rw [List.getD_eq_getElem?_getD, List.getElem?_eq_none (by omega)]; decide

set_option maxHeartbeats 3200000 in
theorem rdec_in (g off cap : Nat) (zs : List Int) (w : World) (hA : Arg w (some ⟨g, off, none⟩) 64 cap zs) (h3 : zs.getD 0 0 ≤ 3) : Calls Try.prog 16 #[.slice (some ⟨g, off, none⟩) 64 cap] w (DecDone w zs) := by
  have HA := Lib.hid hA
  have h64 : zs.length = 64 := hA.1.1
  have H64 := Lib.hid h64
  have HWY := Lib.hid (rd2_ways h64 h3)
  have HSM := Lib.hid (readEnt_small hA.1.2.2.1 h64)
  have HC : Hid (∀ (k : Nat) (W : World), k < 64 → Below w.heap.size w W → ∃ n : Nat, W.cell? ⟨g, off + k, none⟩ = some (.int .u8 (n : Int)) ∧ (n : Int) ≤ 255 ∧ IntKind.i64.wrap (n : Int) = (n : Int) ∧ Hid (zs.getD k 0 = (n : Int))) := Lib.hid (fun k W hk hW => by
    obtain ⟨b, o, he, hc⟩ := (HA.out.later hW).1.2.2.2.resolve_left (by decide)
    simp only [Option.some.injEq, Addr.mk.injEq, and_true] at he
    obtain ⟨rfl, rfl⟩ := he
    have hb := HA.out.1.2.2.1 _ (getD_mem (l := zs) (k := k) (by rw [H64.out]; exact hk))
    refine ⟨(zs.getD k 0).toNat, ?_, by omega, by rw [IntKind.wrap_i64]; omega, Lib.hid (by omega)⟩
    rw [hc k hk]
    congr 2
    omega)
  obtain ⟨n0, q0, b0, e0, HN0⟩ := HC.out 0 w (by decide) (Below.refl _ _)
  have hcap : 64 ≤ cap := hA.2.2.1
  rw [HN0.out] at h3
  rw [Nat.add_zero] at q0
  have HO0 : Hid (OwnE w.heap.size (w.alloc (.cells #[] 40)) (.slice (some ⟨w.heap.size, 0, none⟩) 0 0) []) := Lib.hid ⟨World.ownsRow_made (base := w.heap.size) (e := 40) (size := 2) w #[] 0 (Nat.le_refl _) (by decide) rfl, fun x hx => by cases hx⟩
  clear hA h64
  go_enter Try.func16, Try.ntmps16
  go_wp2_with fail
  go_loopw [4, 5] (fun v iv wr => ∃ i : Nat, iv = .int .i64 (i : Int) ∧ i ≤ n0 ∧ Hid (OwnE w.heap.size wr v ((List.range i).map (readAt zs))) ∧ Hid (Below w.heap.size w wr)) (fun _ iv _ => n0 - (intOf iv).toNat)
  case atStart => exact ⟨0, rfl, Nat.zero_le _, HO0, Lib.hid ((Below.refl _ _).alloc (Nat.le_refl _) _)⟩
  case round =>
    obtain ⟨i, rfl, hi, HV, HB⟩ := hrel
    have q1 := cell_later HB.out q0
    by_cases hlt : i < n0
    · obtain ⟨t, ht⟩ : ∃ t : Nat, 2 + 19 * i = t := ⟨_, rfl⟩
      have t40 : t ≤ 40 := by omega
      obtain ⟨sz, c1, b1, e1, HN1⟩ := HC.out (t + 1) wr (by omega) HB.out
      obtain ⟨n2, c2, b2, e2, HN2⟩ := HC.out t wr (by omega) HB.out
      have i1 : (i : Int) < (n0 : Int) := by omega
      have HTT := Lib.hid ht
      have et : 2 + 19 * (i : Int) = (t : Int) := by omega
      clear ht
      by_cases h17 : 17 < sz
      · have HF := Lib.hid (not_ent (ent_long (i := i) (zs := zs) (by rw [HN0.out]; exact i1) (by rw [show 3 + 19 * i = t + 1 by have := HTT.out; omega, HN1.out]; omega)))
        have j1 : (17 : Int) < (sz : Int) := by omega
        go_wp2_with fail
        go_ret2
        exact ⟨.slice none 0 0, by rw [HF.out.2]; rfl, by rw [HF.out.1]; exact EntVal.nil _, HB.out⟩
      · have j1 : ¬ (17 : Int) < (sz : Int) := by omega
        have r1 : IntKind.i64.wrap ((t : Int) + 1) = (t : Int) + 1 := by rw [IntKind.wrap_i64]; omega
        have r2 : IntKind.i64.wrap ((t : Int) + 2) = (t : Int) + 2 := by rw [IntKind.wrap_i64]; omega
        have r3 : IntKind.i64.wrap ((t : Int) + 2 + (sz : Int)) = (t : Int) + 2 + (sz : Int) := by rw [IntKind.wrap_i64]; omega
        have s1 : (t : Int) < 64 := by omega
        have s2 : 0 ≤ (t : Int) + 1 := by omega
        have s3 : (t : Int) + 1 < 64 := by omega
        have s4 : ((t : Int) + 1).toNat = t + 1 := by omega
        have s5 : 0 ≤ (t : Int) + 2 := by omega
        have s6 : (t : Int) + 2 ≤ (t : Int) + 2 + (sz : Int) := by omega
        have s7 : (t : Int) + 2 + (sz : Int) ≤ (cap : Int) := by omega
        have s8 : ((t : Int) + 2).toNat = t + 2 := by omega
        have s9 : ((t : Int) + 2 + (sz : Int)).toNat = t + 2 + sz := by omega
        have s10 : t + 2 + sz - (t + 2) = sz := by omega
        have s11 : ¬ cap = t + 2 := by omega
        obtain ⟨S, HS⟩ : ∃ S, Hid (str ((zs.drop (t + 2)).take sz) = S) := ⟨_, Lib.hid rfl⟩
        have hBt : Bts wr.drew (some ⟨g, off + (t + 2), none⟩) sz ((zs.drop (t + 2)).take sz) := bts_take (bts_drop (HA.out.later HB.out.drew).1 (by omega)) (by omega)
        have hcv := str_bytes (cap := cap - (t + 2)) hBt
        rw [HS.out] at hcv
        have HX : Hid (readAt zs i = ⟨(n2 : Int), S⟩) := Lib.hid (by
          unfold readAt
          rw [show 2 + 19 * i = t from HTT.out, HN2.out, show 3 + 19 * i = t + 1 by have := HTT.out; omega, HN1.out, Int.toNat_natCast, show 4 + 19 * i = t + 2 by have := HTT.out; omega, HS.out])
        have HXS : Hid (S.size ≤ 64) := Lib.hid (by
          rw [← HS.out, str_size, List.length_take, List.length_drop]; have := H64.out; omega)
        have HSN : Hid ((List.range (i + 1)).map (readAt zs) = (List.range i).map (readAt zs) ++ [⟨(n2 : Int), S⟩]) := Lib.hid (by
          rw [List.range_succ, List.map_append, List.map_cons, List.map_nil, HX.out])
        have HLN : Hid (((List.range i).map (readAt zs)).length = i) := Lib.hid (by simp)
        have HN2B := Lib.hid b2
        generalize (List.range i).map (readAt zs) = es at *
        obtain ⟨ho, hsm⟩ := HV.out
        have HO1 := Lib.hid ho
        have HSE := Lib.hid hsm
        have HZ := Lib.hid HB.out.size
        have d1 : wr.drew.cell? ⟨g, off + t, none⟩ = some (.int .u8 (n2 : Int)) := c2
        have d2 : wr.drew.cell? ⟨g, off + (t + 1), none⟩ = some (.int .u8 (sz : Int)) := c1
        clear ho hsm hBt
        go_wp2_with fail
        go_region_law (refine step_append_ks (o := ⟨some 58, _, _, _, _, _⟩) elemEntry rfl (.tmp 36) (.tmp 57) rfl w.heap.size _ _ _ rfl (owns_drew (HO1.out.alloc _)) ⟨wr.heap.size, 0, none⟩ 1 1 [.int .i64 (n2 : Int), .string S] rfl rfl (news_made wr [.int .i64 (n2 : Int), .string S] _) (by intro u hu; simp only [List.mem_cons, List.mem_nil_iff, or_false] at hu; rcases hu with rfl | rfl <;> rfl) (by have := HLN.out; omega) (by have := HZ.out; simp; omega) ?_; intro v1 w1 hown1 hg1 hb1; have HO2 := Lib.hid hown1; have HB1 := Lib.hid hb1; clear hown1 hg1 hb1)
        all_goals
          go_wp2_with fail
          have HBB1 : Hid (Below wr.heap.size wr (wr.alloc (.cells #[.int .i64 (n2 : Int), .string S] 40)).drew) := Lib.hid ((Below.refl _ _).alloc (Nat.le_refl _) _).drew
          refine ⟨⟨i + 1, by go_num, by omega, Lib.hid (by rw [HSN.out]; exact ownE_snoc (x := ⟨(n2 : Int), S⟩) HO2.out HSE.out ⟨by have := HN2B.out; dsimp only; omega, by have := HXS.out; dsimp only; omega⟩), Lib.hid ?_⟩, by simp [intOf]; omega⟩
          exact (HB.out.trans (HBB1.out.mono HB.out.size)).trans HB1.out
    · obtain rfl : i = n0 := by omega
      have HRE : Hid ((List.range i).map (readAt zs) = readEnt zs) := Lib.hid (by
        unfold readEnt
        rw [HN0.out, Int.toNat_natCast])
      have HEV : Hid (EntVal wr u4 (readEnt zs)) := Lib.hid (by
        rw [← HRE.out]
        exact HV.out.val (by simp; omega))
      obtain ⟨a2, c2, hv2, hE2⟩ := HEV.out
      subst hv2
      have cE := renc_any a2 _ c2 _ wr hE2
      have HE2 := Lib.hid hE2
      clear hE2
      unfold EncDone entOut entErr at cE
      have hz := HA.out.1
      generalize hn : (readEnt zs).length = n at *
      have HN := Lib.hid hn
      clear hn
      rcases HWY.out with ⟨k1, k2, k3, k4⟩ | ⟨k1, k2, k3, k4⟩ | ⟨k1, k3, k4⟩
      · rw [if_pos k1, if_pos k1, k2] at cE
        have HK := Lib.hid (And.intro k3 k4)
        have HTE : Hid ((str zs).toList == (str zs).toList) := Lib.hid (by simp)
        clear k1 k2 k3 k4 hz
        go_wp2_with (go_at_call 13; refine cE.mono ?_; rintro e w3 ⟨v3, rfl, hf3, hb3⟩; have h1 := fresh_str hf3; have h2 := str_bytes (cap := cap) (HA.out.later (HB.out.trans (hb3.mono HB.out.size))).1; have B3 := Lib.hid hb3; clear hf3 hb3)
        go_ret2
        exact ⟨.slice a2 n c2, by rw [HK.out.2]; rfl, by rw [HK.out.1]; exact ⟨a2, c2, by rw [HN.out], (by have := HE2.out.later B3.out; rwa [← HN.out] at this)⟩, HB.out.trans (B3.out.mono HB.out.size)⟩
      · rw [if_pos k1, if_pos k1] at cE
        have HK := Lib.hid (And.intro k3 k4)
        have hbb : ∀ z ∈ entBlock (readEnt zs), 0 ≤ z ∧ z ≤ 255 := by
          unfold entBlock
          rw [seal_short (entB_bytes k1).2.2]
          intro z hz'
          rcases List.mem_append.1 hz' with h | h
          · rcases List.mem_append.1 h with h | h
            · exact (entB_bytes k1).1 z h
            · rw [List.eq_of_mem_replicate h]; decide
          · exact leB_bytes _ _ z h
        have hne := str_eq hbb hz.2.2.1
        rw [decide_eq_false k2] at hne
        generalize entBlock (readEnt zs) = O at *
        clear k1 k2 k3 k4 hz hbb
        go_wp2_with (go_at_call 13; refine cE.mono ?_; rintro e w3 ⟨v3, rfl, hf3, hb3⟩; have h1 := fresh_str hf3; have h2 := str_bytes (cap := cap) (HA.out.later (HB.out.trans (hb3.mono HB.out.size))).1; have B3 := Lib.hid hb3; clear hf3 hb3)
        go_ret2
        exact ⟨.slice none 0 0, by rw [HK.out.2]; rfl, by rw [HK.out.1]; exact EntVal.nil _, HB.out.trans (B3.out.mono HB.out.size)⟩
      · rw [k1, if_neg (by decide), if_neg (by decide)] at cE
        have HK := Lib.hid (And.intro k3 k4)
        clear k1 k3 k4 hz
        go_wp2_with (go_at_call 13; refine cE.mono ?_; rintro e w3 ⟨v3, rfl, hf3, hb3⟩; have B3 := Lib.hid hb3; clear hf3 hb3)
        go_ret2
        exact ⟨.slice none 0 0, by rw [HK.out.2]; rfl, by rw [HK.out.1]; exact EntVal.nil _, HB.out.trans (B3.out.mono HB.out.size)⟩

theorem isEnt_no {zs : List Int} (h : ¬ (zs.length = 64 ∧ zs.getD 0 0 ≤ 3)) : isEnt zs = false := by
  unfold isEnt
  rw [decide_eq_false h]
  rfl

set_option maxHeartbeats 1600000 in
theorem rdec_any (ao : Option Addr) (len cap : Nat) (zs : List Int) (w : World) (hA : Arg w ao len cap zs) : Calls Try.prog 16 #[.slice ao len cap] w (DecDone w zs) := by
  have hl := hA.1.1
  by_cases h64 : len = 64
  · subst h64
    obtain ⟨g, off, rfl, hc⟩ := hA.1.2.2.2.resolve_left (by decide)
    by_cases h3 : zs.getD 0 0 ≤ 3
    · exact rdec_in g off cap zs w hA h3
    · have HF := Lib.hid (not_ent (isEnt_no (zs := zs) (fun h => h3 h.2)))
      have q0 := hc 0 (by decide)
      rw [Nat.add_zero] at q0
      have hb := hA.1.2.2.1 _ (getD_mem (l := zs) (k := 0) (by omega))
      obtain ⟨n0, hn0⟩ : ∃ n, zs.getD 0 0 = n := ⟨_, rfl⟩
      rw [hn0] at h3 q0 hb
      have j1 : 3 < n0 := by omega
      clear hA hc hn0 hl h3
      go_enter Try.func16, Try.ntmps16
      go_wp2_with fail
      go_ret2
      exact ⟨.slice none 0 0, by rw [HF.out.2]; rfl, by rw [HF.out.1]; exact EntVal.nil _, Below.refl _ _⟩
  · have HF := Lib.hid (not_ent (isEnt_no (zs := zs) (fun h => h64 (hl.symm.trans h.1))))
    have j1 : ¬ (len : Int) = 64 := by omega
    have j2 : ((len : Int) == 64) = false := by simpa using j1
    have j3 : ((len : Int) != 64) = true := by simpa using j1
    clear hA hl h64
    go_enter Try.func16, Try.ntmps16
    go_wp2_with fail
    go_ret2
    exact ⟨.slice none 0 0, by rw [HF.out.2]; rfl, by rw [HF.out.1]; exact EntVal.nil _, Below.refl _ _⟩

end Go.Proofs.Ytkpgefjbhimmgaa
