/-
  Proved here: more strokes, and points, between names change nothing. No conditions.
-/
import Derived.Test.YtjhdhglbgbpckaaAwake14
import Derived.Test.YtjhdhglbgbpckaaStrsIn
import Derived.WalkKit
import Derived.Deep.RegionHeld
import Derived.Deep.RegionLaw
namespace Go.Proofs.Ytjhdhglbgbpckaa.pathDots
open Go.ChangeShapes Go.WideShapes Go.ChangeAt Go.RowKit
open Go.ChangeMaps (open_string shut_string)
set_option linter.unusedVariables false
set_option linter.unusedSimpArgs false

theorem join_facts' {N : List (List Int)} (h : (joinW N).1 = 0) : N.all nmL = true ∧ N.length ≤ 16 ∧ splitW (joinW N).2 = (0, N) ∧ (joinW N).2.length ≤ 289 := by
  unfold joinW at h
  by_cases h1 : 16 < N.length
  · rw [if_pos h1] at h; exact absurd h (by decide)
  · rw [if_neg h1] at h
    by_cases h2 : N.all nmL = true
    · refine ⟨h2, by omega, split_join h2 (by omega), ?_⟩
      have h3 := size_le N h2
      unfold joinW
      rw [if_neg h1, if_pos h2]
      show (if N = [] then [47] else joinN N).length ≤ 289
      by_cases h0 : N = []
      · rw [if_pos h0]; decide
      · rw [if_neg h0, join_length]; omega
    · rw [if_neg h2] at h; exact absurd h (by decide)
def kindAt (zs : List Int) (i : Nat) : Nat := (zs.getD i 0 % 4).toNat
def ksTo (zs : List Int) (ns : List ByteArray) (i : Nat) : List (Nat × List Int) := (List.range i).map fun j => (kindAt zs j, bytesOf (ns.getD j ByteArray.empty))
theorem ks_succ (zs : List Int) (ns : List ByteArray) (i : Nat) : ksTo zs ns (i + 1) = ksTo zs ns i ++ [(kindAt zs i, bytesOf (ns.getD i ByteArray.empty))] := by
  unfold ksTo; rw [List.range_succ, List.map_append]; rfl
theorem dots_snoc (ks : List (Nat × List Int)) (p : Nat × List Int) : dotsS (ks ++ [p]) = dotsS ks ++ (sepL p.1 ++ p.2) := by
  unfold dotsS; rw [List.flatMap_append]; simp
/-- What stands ahead of a name. -/
def sepB : Nat → ByteArray
  | 0 => ⟨#[47]⟩
  | 1 => ⟨#[47, 47]⟩
  | 2 => ⟨#[47, 46, 47]⟩
  | _ => ⟨#[47, 120, 47, 46, 46, 47]⟩
theorem sep_bytes (k : Nat) : bytesOf (sepB k) = sepL k := by
  match k with
  | 0 => rfl
  | 1 => rfl
  | 2 => rfl
  | k + 3 => rfl
theorem sep_size (k : Nat) : (sepB k).size ≤ 6 := by
  match k with
  | 0 => decide
  | 1 => decide
  | 2 => decide
  | k + 3 => exact Nat.le_refl 6
/-- One name more. -/
theorem acc_next {zs : List Int} {ns : List ByteArray} {i k : Nat} {acc x : ByteArray} (h : bytesOf acc = dotsS (ksTo zs ns i)) (hx : ns[i]? = some x) (hk : kindAt zs i = k) : bytesOf (acc ++ (sepB k ++ x)) = dotsS (ksTo zs ns (i + 1)) := by
  rw [ks_succ, dots_snoc, bytesOf_append, bytesOf_append, sep_bytes, h, hk, List.getD_eq_getElem?_getD, hx]
  rfl
theorem kind_lt (zs : List Int) (i : Nat) : kindAt zs i < 4 := by unfold kindAt; omega
theorem kind_out {zs : List Int} {i : Nat} (h : zs.length ≤ i) : kindAt zs i = 0 := by unfold kindAt; rw [List.getD_eq_getElem?_getD, List.getElem?_eq_none h]; rfl
theorem bts_at {w : World} {a : Option Addr} {len i : Nat} {zs : List Int} (h : Bts w a len zs) (hi : i < len) : ∃ b off, a = some ⟨b, off, none⟩ ∧ w.cell? ⟨b, off + i, none⟩ = some (.int .u8 (zs.getD i 0)) ∧ 0 ≤ zs.getD i 0 ∧ zs.getD i 0 ≤ 255 := by
  obtain ⟨h1, h2, h3, h4⟩ := h
  obtain ⟨b, off, ha, hc⟩ := h4.resolve_left (by omega)
  have hm : zs.getD i 0 ∈ zs := by
    rw [List.getD_eq_getElem?_getD, List.getElem?_eq_getElem (by omega)]
    exact List.getElem_mem _
  exact ⟨b, off, ha, hc i hi, h3 _ hm⟩
theorem ks_ok {zs : List Int} {ns : List ByteArray} (h : (ns.map bytesOf).all nmL = true) : (ksTo zs ns ns.length).all (fun q => nmL q.2) = true ∧ (ksTo zs ns ns.length).map (·.2) = ns.map bytesOf := by
  have e : (ksTo zs ns ns.length).map (·.2) = ns.map bytesOf := by
    unfold ksTo
    rw [List.map_map]
    apply List.ext_getElem
    · simp
    · intro j h1 h2
      simp at h1 h2
      simp [h1]
  refine ⟨?_, e⟩
  have : (ksTo zs ns ns.length).all (fun q => nmL q.2) = ((ksTo zs ns ns.length).map (·.2)).all nmL := by rw [List.all_map]; rfl
  rw [this, e, h]
theorem dots_split {zs : List Int} {ns : List ByteArray} {t : ByteArray} (h : (ns.map bytesOf).all nmL = true) (hl : ns.length ≤ 16) (hn : ns ≠ []) (ht : bytesOf t = dotsS (ksTo zs ns ns.length)) : splitW (bytesOf t) = (0, ns.map bytesOf) := by
  obtain ⟨h1, h2⟩ := ks_ok (zs := zs) h
  rw [ht, split_dots h1 (by unfold ksTo; simp; exact hl) (by unfold ksTo; simp; exact hn), h2]
set_option maxRecDepth 100000 in
set_option maxHeartbeats 6400000 in
theorem walk (a0 : Option Addr) (len0 cap0 : Nat) (n0 : List ByteArray) (a1 : Option Addr) (len1 cap1 : Nat) (z1 : List Int) (w : World) (w0 : SArg w a0 len0 cap0 n0) (w1 : IsRow .u8 w a1 len1 cap1 z1) (rch1 : cap1 ≤ 140737488351232) :
    Calls Try.prog 8 #[.slice a0 len0 cap0, .slice a1 len1 cap1] w fun e w' => e = .returned (.bool true) ∧ Below w.heap.size w w' := by
  have c1 := Join_any (cap := cap0) w w0.1 w0.2.1 w0.2.2.2.1
  have c8 := fun W => awake14 W
  have HX0 := Lib.hid w0
  have HA1 := Lib.hid (w1.arg rch1)
  clear w1 rch1
  generalize z1.take len1 = zs at HA1
  obtain ⟨J, hJ⟩ : ∃ J, joinW (n0.map bytesOf) = J := ⟨_, rfl⟩
  rw [hJ] at c1
  have HJ := Lib.hid hJ
  clear hJ
  obtain ⟨e1, P⟩ := J
  by_cases h1 : e1 = 0
  · subst h1
    have hl0 := HX0.out.1.len
    have hl16 : len0 ≤ 16 := by
      have := (join_facts' (N := n0.map bytesOf) (by rw [HJ.out])).2.1
      rw [List.length_map, hl0] at this
      exact this
    clear hl0 w0
    go_enter Try.func8, Try.ntmps8
    go_wp2_with (first
      | (go_at_call 11; refine (c8 _).mono ?_; rintro e w2 ⟨rfl, hb2⟩; have HB2 := Lib.hid (HB1.out.trans (hb2.mono HB1.out.size)); clear hb2)
      | (go_at_call 13; refine c1.mono ?_; rintro e w1 ⟨⟨p, rfl, hq⟩, hb1⟩; have HB1 := Lib.hid hb1; have HQ : Hid (bytesOf p = P) := Lib.hid hq; clear hb1 hq))
    go_loopw [7, 8] (fun tv iv wr => ∃ (i : Nat) (acc : ByteArray), iv = .int .i64 (i : Int) ∧ tv = .string acc ∧ i ≤ len0 ∧ acc.size ≤ 23 * i ∧ Hid (bytesOf acc = dotsS (ksTo zs n0 i)) ∧ Hid (Below w.heap.size w wr)) (fun _ iv _ => len0 - (intOf iv).toNat)
    case atStart => exact ⟨0, ByteArray.empty, rfl, rfl, Nat.zero_le _, Nat.zero_le _, Lib.hid rfl, HB2⟩
    case round =>
      obtain ⟨i, acc, rfl, rfl, hi, hsz, HT, HB⟩ := hrel
      by_cases hlt : i < len0
      · obtain ⟨b1, o1, x, rfl, hx, d1⟩ := (HX0.out.1.later HB.out).at hlt
        have i3 : (i : Int) < (len0 : Int) := by omega
        have HXI := Lib.hid hx
        have hx17 : x.size ≤ 17 := by
          have f := (join_facts' (N := n0.map bytesOf) (by rw [HJ.out])).1
          rw [names_nm] at f
          have := List.all_eq_true.1 f x (List.mem_of_getElem? hx)
          rw [named_nm] at this
          have := (nm_facts this).2.2.1
          rwa [bytesOf_length] at this
        have HN := Lib.hid (fun k => acc_next (k := k) HT.out hx)
        clear hx
        by_cases hm : i < len1
        · obtain ⟨b2, o2, rfl, d2, z0, z255⟩ := bts_at (HA1.out.later HB.out).1 hm
          have m3 : (i : Int) < (len1 : Int) := by omega
          obtain ⟨z, hz⟩ : ∃ z, zs.getD i 0 = z := ⟨_, rfl⟩
          rw [hz] at d2 z0 z255
          have hk : kindAt zs i = (z % 4).toNat := by unfold kindAt; rw [hz]
          have hk4 := kind_lt zs i
          obtain ⟨k, hkk⟩ : ∃ k, kindAt zs i = k := ⟨_, rfl⟩
          have HK := Lib.hid hkk
          rw [hkk] at hk hk4
          have ht : Int.tmod z 4 = (k : Int) := by rw [Int.tmod_eq_emod_of_nonneg z0]; omega
          clear hz hk hkk hm
          rcases (show k = 0 ∨ k = 1 ∨ k = 2 ∨ k = 3 by omega) with rfl | rfl | rfl | rfl
          · go_wp2_with fail
            refine wp_region_held_drew (S := fun W => W.cell? ⟨b1, o1 + i, none⟩ = some (.string x)) (by kernel_rfl) d1 (fun hHeld => ?_)
            refine wpAnyH_take (i := 0) (oi := ⟨some 42, _, _, _, _, _⟩) (v := .string acc) rfl (by kernel_rfl) (by kernel_rfl) (by kernel_rfl) (fun _ _ _ h => h) (Or.inl ⟨by kernel_rfl, fun w _ => rfl⟩) (by assumption) ?_
            try simp only [Act.put, List.setIfInBounds_toArray, List.set_cons_zero, List.set_cons_succ]
            refine wpAnyH_take (i := 2) (oi := ⟨some 44, _, _, _, _, _⟩) (v := .int .i64 0) rfl (by kernel_rfl) (by kernel_rfl) (by kernel_rfl) (fun _ _ _ h => h) (Or.inl ⟨by kernel_rfl, fun w _ => rfl⟩) (by assumption) ?_
            try simp only [Act.put, List.setIfInBounds_toArray, List.set_cons_zero, List.set_cons_succ]
            refine wpAnyH_take (i := 5) (oi := ⟨some 47, _, _, _, _, _⟩) (v := .slice (some ⟨b1, o1, none⟩) len0 cap0) rfl (by kernel_rfl) (by kernel_rfl) (by kernel_rfl) (fun _ _ _ h => h) (Or.inl ⟨by kernel_rfl, fun w _ => rfl⟩) (by assumption) ?_
            try simp only [Act.put, List.setIfInBounds_toArray, List.set_cons_zero, List.set_cons_succ]
            refine wpAnyH_take (i := 6) (oi := ⟨some 48, _, _, _, _, _⟩) (v := .int .i64 (i : Int)) rfl (by kernel_rfl) (by kernel_rfl) (by kernel_rfl) (fun _ _ _ h => h) (Or.inl ⟨by kernel_rfl, fun w _ => rfl⟩) (by assumption) ?_
            try simp only [Act.put, List.setIfInBounds_toArray, List.set_cons_zero, List.set_cons_succ]
            refine wpAnyH_take (i := 7) (oi := ⟨some 49, _, _, _, _, _⟩) (v := .pointer (some ⟨b1, o1 + i, none⟩)) rfl (by kernel_rfl) (by kernel_rfl) (by kernel_rfl) (fun _ _ _ h => h) (Or.inl ⟨by kernel_rfl, by intro w _; go_simp; (try omega)⟩) (by assumption) ?_
            try simp only [Act.put, List.setIfInBounds_toArray, List.set_cons_zero, List.set_cons_succ]
            refine wpAnyH_take (i := 8) (oi := ⟨some 50, _, _, _, _, _⟩) (v := .string x) rfl (by kernel_rfl) (by kernel_rfl) (by kernel_rfl) (fun _ _ _ h => h) (Or.inl ⟨by kernel_rfl, by intro w hSw; (try dsimp only at hSw); go_simp⟩) (by assumption) ?_
            try simp only [Act.put, List.setIfInBounds_toArray, List.set_cons_zero, List.set_cons_succ]
            refine wpAnyH_ready (rs := [1]) (by kernel_rfl) (by simp) ?_
            refine AllReadyH.cons (o := ⟨some 43, _, _, _, _, _⟩) rfl (fun K hK => ?_) AllReadyH.nil
            go_simp
            refine hK.out _ _ ?_ (fun hHeld2 => ?_)
            · exact cell_later (((Below.refl wr.heap.size wr).drew).alloc (Nat.le_refl _) _) d1
            clear hK K
            try simp only [Act.put, List.setIfInBounds_toArray, List.set_cons_zero, List.set_cons_succ]
            refine wpAnyH_take (i := 3) (oi := ⟨some 45, _, _, _, _, _⟩) (v := .pointer (some ⟨wr.heap.size, 0, none⟩)) rfl (by kernel_rfl) (by kernel_rfl) (by kernel_rfl) (fun _ _ _ h => h) (Or.inl ⟨by kernel_rfl, by intro w _; go_simp; (try omega)⟩) (by assumption) ?_
            try simp only [Act.put, List.setIfInBounds_toArray, List.set_cons_zero, List.set_cons_succ]
            refine wpAnyH_ready (rs := [4]) (by kernel_rfl) (by simp) ?_
            refine AllReadyH.cons (o := ⟨some 46, _, _, _, _, _⟩) rfl (fun K hK => ?_) AllReadyH.nil
            go_simp
            refine hK.out _ _ hHeld2 (fun hHeld3 => ?_)
            clear hK K
            try simp only [Act.put, List.setIfInBounds_toArray, List.set_cons_zero, List.set_cons_succ]
            refine wpAnyH_take (i := 9) (oi := ⟨some 51, _, _, _, _, _⟩) (v := .string ((⟨#[47]⟩ : ByteArray) ++ x)) rfl (by kernel_rfl) (by kernel_rfl) (by kernel_rfl) (fun _ _ _ h => h) (Or.inl ⟨by kernel_rfl, by intro w _; go_simp; (try omega)⟩) (by assumption) ?_
            try simp only [Act.put, List.setIfInBounds_toArray, List.set_cons_zero, List.set_cons_succ]
            refine wpAnyH_take (i := 10) (oi := ⟨some 52, _, _, _, _, _⟩) (v := .string (acc ++ ((⟨#[47]⟩ : ByteArray) ++ x))) rfl (by kernel_rfl) (by kernel_rfl) (by kernel_rfl) (fun _ _ _ h => h) (Or.inl ⟨by kernel_rfl, by intro w _; go_simp; (try omega)⟩) (by assumption) ?_
            try simp only [Act.put, List.setIfInBounds_toArray, List.set_cons_zero, List.set_cons_succ]
            refine wpAnyH_take (i := 11) (oi := ⟨some 7, _, _, _, _, _⟩) (v := .string (acc ++ ((⟨#[47]⟩ : ByteArray) ++ x))) rfl (by kernel_rfl) (by kernel_rfl) (by kernel_rfl) (fun _ _ _ h => h) (Or.inl ⟨by kernel_rfl, fun w _ => rfl⟩) (by assumption) ?_
            try simp only [Act.put, List.setIfInBounds_toArray, List.set_cons_zero, List.set_cons_succ]
            refine wpAnyH_done (by kernel_rfl) ?_ _
            go_wp2_with fail
            go_roundw
            case rel => exact ⟨i + 1, acc ++ (sepB 0 ++ x), by go_num, rfl, by omega, by have := sep_size 0; rw [ByteArray.size_append, ByteArray.size_append]; omega, Lib.hid (HN.out 0 HK.out), Lib.hid ((HB.out.drew).alloc (by have := HB.out.size; exact this) _)⟩
            case measure => simp [intOf]; omega
          · go_wp2_with fail
            refine wp_region_held_drew (S := fun W => W.cell? ⟨b1, o1 + i, none⟩ = some (.string x)) (by kernel_rfl) d1 (fun hHeld => ?_)
            refine wpAnyH_take (i := 0) (oi := ⟨some 42, _, _, _, _, _⟩) (v := .string acc) rfl (by kernel_rfl) (by kernel_rfl) (by kernel_rfl) (fun _ _ _ h => h) (Or.inl ⟨by kernel_rfl, fun w _ => rfl⟩) (by assumption) ?_
            try simp only [Act.put, List.setIfInBounds_toArray, List.set_cons_zero, List.set_cons_succ]
            refine wpAnyH_take (i := 2) (oi := ⟨some 44, _, _, _, _, _⟩) (v := .int .i64 1) rfl (by kernel_rfl) (by kernel_rfl) (by kernel_rfl) (fun _ _ _ h => h) (Or.inl ⟨by kernel_rfl, fun w _ => rfl⟩) (by assumption) ?_
            try simp only [Act.put, List.setIfInBounds_toArray, List.set_cons_zero, List.set_cons_succ]
            refine wpAnyH_take (i := 5) (oi := ⟨some 47, _, _, _, _, _⟩) (v := .slice (some ⟨b1, o1, none⟩) len0 cap0) rfl (by kernel_rfl) (by kernel_rfl) (by kernel_rfl) (fun _ _ _ h => h) (Or.inl ⟨by kernel_rfl, fun w _ => rfl⟩) (by assumption) ?_
            try simp only [Act.put, List.setIfInBounds_toArray, List.set_cons_zero, List.set_cons_succ]
            refine wpAnyH_take (i := 6) (oi := ⟨some 48, _, _, _, _, _⟩) (v := .int .i64 (i : Int)) rfl (by kernel_rfl) (by kernel_rfl) (by kernel_rfl) (fun _ _ _ h => h) (Or.inl ⟨by kernel_rfl, fun w _ => rfl⟩) (by assumption) ?_
            try simp only [Act.put, List.setIfInBounds_toArray, List.set_cons_zero, List.set_cons_succ]
            refine wpAnyH_take (i := 7) (oi := ⟨some 49, _, _, _, _, _⟩) (v := .pointer (some ⟨b1, o1 + i, none⟩)) rfl (by kernel_rfl) (by kernel_rfl) (by kernel_rfl) (fun _ _ _ h => h) (Or.inl ⟨by kernel_rfl, by intro w _; go_simp; (try omega)⟩) (by assumption) ?_
            try simp only [Act.put, List.setIfInBounds_toArray, List.set_cons_zero, List.set_cons_succ]
            refine wpAnyH_take (i := 8) (oi := ⟨some 50, _, _, _, _, _⟩) (v := .string x) rfl (by kernel_rfl) (by kernel_rfl) (by kernel_rfl) (fun _ _ _ h => h) (Or.inl ⟨by kernel_rfl, by intro w hSw; (try dsimp only at hSw); go_simp⟩) (by assumption) ?_
            try simp only [Act.put, List.setIfInBounds_toArray, List.set_cons_zero, List.set_cons_succ]
            refine wpAnyH_ready (rs := [1]) (by kernel_rfl) (by simp) ?_
            refine AllReadyH.cons (o := ⟨some 43, _, _, _, _, _⟩) rfl (fun K hK => ?_) AllReadyH.nil
            go_simp
            refine hK.out _ _ ?_ (fun hHeld2 => ?_)
            · exact cell_later (((Below.refl wr.heap.size wr).drew).alloc (Nat.le_refl _) _) d1
            clear hK K
            try simp only [Act.put, List.setIfInBounds_toArray, List.set_cons_zero, List.set_cons_succ]
            refine wpAnyH_take (i := 3) (oi := ⟨some 45, _, _, _, _, _⟩) (v := .pointer (some ⟨wr.heap.size, 1, none⟩)) rfl (by kernel_rfl) (by kernel_rfl) (by kernel_rfl) (fun _ _ _ h => h) (Or.inl ⟨by kernel_rfl, by intro w _; go_simp; (try omega)⟩) (by assumption) ?_
            try simp only [Act.put, List.setIfInBounds_toArray, List.set_cons_zero, List.set_cons_succ]
            refine wpAnyH_ready (rs := [4]) (by kernel_rfl) (by simp) ?_
            refine AllReadyH.cons (o := ⟨some 46, _, _, _, _, _⟩) rfl (fun K hK => ?_) AllReadyH.nil
            go_simp
            refine hK.out _ _ hHeld2 (fun hHeld3 => ?_)
            clear hK K
            try simp only [Act.put, List.setIfInBounds_toArray, List.set_cons_zero, List.set_cons_succ]
            refine wpAnyH_take (i := 9) (oi := ⟨some 51, _, _, _, _, _⟩) (v := .string ((⟨#[47, 47]⟩ : ByteArray) ++ x)) rfl (by kernel_rfl) (by kernel_rfl) (by kernel_rfl) (fun _ _ _ h => h) (Or.inl ⟨by kernel_rfl, by intro w _; go_simp; (try omega)⟩) (by assumption) ?_
            try simp only [Act.put, List.setIfInBounds_toArray, List.set_cons_zero, List.set_cons_succ]
            refine wpAnyH_take (i := 10) (oi := ⟨some 52, _, _, _, _, _⟩) (v := .string (acc ++ ((⟨#[47, 47]⟩ : ByteArray) ++ x))) rfl (by kernel_rfl) (by kernel_rfl) (by kernel_rfl) (fun _ _ _ h => h) (Or.inl ⟨by kernel_rfl, by intro w _; go_simp; (try omega)⟩) (by assumption) ?_
            try simp only [Act.put, List.setIfInBounds_toArray, List.set_cons_zero, List.set_cons_succ]
            refine wpAnyH_take (i := 11) (oi := ⟨some 7, _, _, _, _, _⟩) (v := .string (acc ++ ((⟨#[47, 47]⟩ : ByteArray) ++ x))) rfl (by kernel_rfl) (by kernel_rfl) (by kernel_rfl) (fun _ _ _ h => h) (Or.inl ⟨by kernel_rfl, fun w _ => rfl⟩) (by assumption) ?_
            try simp only [Act.put, List.setIfInBounds_toArray, List.set_cons_zero, List.set_cons_succ]
            refine wpAnyH_done (by kernel_rfl) ?_ _
            go_wp2_with fail
            go_roundw
            case rel => exact ⟨i + 1, acc ++ (sepB 1 ++ x), by go_num, rfl, by omega, by have := sep_size 1; rw [ByteArray.size_append, ByteArray.size_append]; omega, Lib.hid (HN.out 1 HK.out), Lib.hid ((HB.out.drew).alloc (by have := HB.out.size; exact this) _)⟩
            case measure => simp [intOf]; omega
          · go_wp2_with fail
            refine wp_region_held_drew (S := fun W => W.cell? ⟨b1, o1 + i, none⟩ = some (.string x)) (by kernel_rfl) d1 (fun hHeld => ?_)
            refine wpAnyH_take (i := 0) (oi := ⟨some 42, _, _, _, _, _⟩) (v := .string acc) rfl (by kernel_rfl) (by kernel_rfl) (by kernel_rfl) (fun _ _ _ h => h) (Or.inl ⟨by kernel_rfl, fun w _ => rfl⟩) (by assumption) ?_
            try simp only [Act.put, List.setIfInBounds_toArray, List.set_cons_zero, List.set_cons_succ]
            refine wpAnyH_take (i := 2) (oi := ⟨some 44, _, _, _, _, _⟩) (v := .int .i64 2) rfl (by kernel_rfl) (by kernel_rfl) (by kernel_rfl) (fun _ _ _ h => h) (Or.inl ⟨by kernel_rfl, fun w _ => rfl⟩) (by assumption) ?_
            try simp only [Act.put, List.setIfInBounds_toArray, List.set_cons_zero, List.set_cons_succ]
            refine wpAnyH_take (i := 5) (oi := ⟨some 47, _, _, _, _, _⟩) (v := .slice (some ⟨b1, o1, none⟩) len0 cap0) rfl (by kernel_rfl) (by kernel_rfl) (by kernel_rfl) (fun _ _ _ h => h) (Or.inl ⟨by kernel_rfl, fun w _ => rfl⟩) (by assumption) ?_
            try simp only [Act.put, List.setIfInBounds_toArray, List.set_cons_zero, List.set_cons_succ]
            refine wpAnyH_take (i := 6) (oi := ⟨some 48, _, _, _, _, _⟩) (v := .int .i64 (i : Int)) rfl (by kernel_rfl) (by kernel_rfl) (by kernel_rfl) (fun _ _ _ h => h) (Or.inl ⟨by kernel_rfl, fun w _ => rfl⟩) (by assumption) ?_
            try simp only [Act.put, List.setIfInBounds_toArray, List.set_cons_zero, List.set_cons_succ]
            refine wpAnyH_take (i := 7) (oi := ⟨some 49, _, _, _, _, _⟩) (v := .pointer (some ⟨b1, o1 + i, none⟩)) rfl (by kernel_rfl) (by kernel_rfl) (by kernel_rfl) (fun _ _ _ h => h) (Or.inl ⟨by kernel_rfl, by intro w _; go_simp; (try omega)⟩) (by assumption) ?_
            try simp only [Act.put, List.setIfInBounds_toArray, List.set_cons_zero, List.set_cons_succ]
            refine wpAnyH_take (i := 8) (oi := ⟨some 50, _, _, _, _, _⟩) (v := .string x) rfl (by kernel_rfl) (by kernel_rfl) (by kernel_rfl) (fun _ _ _ h => h) (Or.inl ⟨by kernel_rfl, by intro w hSw; (try dsimp only at hSw); go_simp⟩) (by assumption) ?_
            try simp only [Act.put, List.setIfInBounds_toArray, List.set_cons_zero, List.set_cons_succ]
            refine wpAnyH_ready (rs := [1]) (by kernel_rfl) (by simp) ?_
            refine AllReadyH.cons (o := ⟨some 43, _, _, _, _, _⟩) rfl (fun K hK => ?_) AllReadyH.nil
            go_simp
            refine hK.out _ _ ?_ (fun hHeld2 => ?_)
            · exact cell_later (((Below.refl wr.heap.size wr).drew).alloc (Nat.le_refl _) _) d1
            clear hK K
            try simp only [Act.put, List.setIfInBounds_toArray, List.set_cons_zero, List.set_cons_succ]
            refine wpAnyH_take (i := 3) (oi := ⟨some 45, _, _, _, _, _⟩) (v := .pointer (some ⟨wr.heap.size, 2, none⟩)) rfl (by kernel_rfl) (by kernel_rfl) (by kernel_rfl) (fun _ _ _ h => h) (Or.inl ⟨by kernel_rfl, by intro w _; go_simp; (try omega)⟩) (by assumption) ?_
            try simp only [Act.put, List.setIfInBounds_toArray, List.set_cons_zero, List.set_cons_succ]
            refine wpAnyH_ready (rs := [4]) (by kernel_rfl) (by simp) ?_
            refine AllReadyH.cons (o := ⟨some 46, _, _, _, _, _⟩) rfl (fun K hK => ?_) AllReadyH.nil
            go_simp
            refine hK.out _ _ hHeld2 (fun hHeld3 => ?_)
            clear hK K
            try simp only [Act.put, List.setIfInBounds_toArray, List.set_cons_zero, List.set_cons_succ]
            refine wpAnyH_take (i := 9) (oi := ⟨some 51, _, _, _, _, _⟩) (v := .string ((⟨#[47, 46, 47]⟩ : ByteArray) ++ x)) rfl (by kernel_rfl) (by kernel_rfl) (by kernel_rfl) (fun _ _ _ h => h) (Or.inl ⟨by kernel_rfl, by intro w _; go_simp; (try omega)⟩) (by assumption) ?_
            try simp only [Act.put, List.setIfInBounds_toArray, List.set_cons_zero, List.set_cons_succ]
            refine wpAnyH_take (i := 10) (oi := ⟨some 52, _, _, _, _, _⟩) (v := .string (acc ++ ((⟨#[47, 46, 47]⟩ : ByteArray) ++ x))) rfl (by kernel_rfl) (by kernel_rfl) (by kernel_rfl) (fun _ _ _ h => h) (Or.inl ⟨by kernel_rfl, by intro w _; go_simp; (try omega)⟩) (by assumption) ?_
            try simp only [Act.put, List.setIfInBounds_toArray, List.set_cons_zero, List.set_cons_succ]
            refine wpAnyH_take (i := 11) (oi := ⟨some 7, _, _, _, _, _⟩) (v := .string (acc ++ ((⟨#[47, 46, 47]⟩ : ByteArray) ++ x))) rfl (by kernel_rfl) (by kernel_rfl) (by kernel_rfl) (fun _ _ _ h => h) (Or.inl ⟨by kernel_rfl, fun w _ => rfl⟩) (by assumption) ?_
            try simp only [Act.put, List.setIfInBounds_toArray, List.set_cons_zero, List.set_cons_succ]
            refine wpAnyH_done (by kernel_rfl) ?_ _
            go_wp2_with fail
            go_roundw
            case rel => exact ⟨i + 1, acc ++ (sepB 2 ++ x), by go_num, rfl, by omega, by have := sep_size 2; rw [ByteArray.size_append, ByteArray.size_append]; omega, Lib.hid (HN.out 2 HK.out), Lib.hid ((HB.out.drew).alloc (by have := HB.out.size; exact this) _)⟩
            case measure => simp [intOf]; omega
          · go_wp2_with fail
            refine wp_region_held_drew (S := fun W => W.cell? ⟨b1, o1 + i, none⟩ = some (.string x)) (by kernel_rfl) d1 (fun hHeld => ?_)
            refine wpAnyH_take (i := 0) (oi := ⟨some 42, _, _, _, _, _⟩) (v := .string acc) rfl (by kernel_rfl) (by kernel_rfl) (by kernel_rfl) (fun _ _ _ h => h) (Or.inl ⟨by kernel_rfl, fun w _ => rfl⟩) (by assumption) ?_
            try simp only [Act.put, List.setIfInBounds_toArray, List.set_cons_zero, List.set_cons_succ]
            refine wpAnyH_take (i := 2) (oi := ⟨some 44, _, _, _, _, _⟩) (v := .int .i64 3) rfl (by kernel_rfl) (by kernel_rfl) (by kernel_rfl) (fun _ _ _ h => h) (Or.inl ⟨by kernel_rfl, fun w _ => rfl⟩) (by assumption) ?_
            try simp only [Act.put, List.setIfInBounds_toArray, List.set_cons_zero, List.set_cons_succ]
            refine wpAnyH_take (i := 5) (oi := ⟨some 47, _, _, _, _, _⟩) (v := .slice (some ⟨b1, o1, none⟩) len0 cap0) rfl (by kernel_rfl) (by kernel_rfl) (by kernel_rfl) (fun _ _ _ h => h) (Or.inl ⟨by kernel_rfl, fun w _ => rfl⟩) (by assumption) ?_
            try simp only [Act.put, List.setIfInBounds_toArray, List.set_cons_zero, List.set_cons_succ]
            refine wpAnyH_take (i := 6) (oi := ⟨some 48, _, _, _, _, _⟩) (v := .int .i64 (i : Int)) rfl (by kernel_rfl) (by kernel_rfl) (by kernel_rfl) (fun _ _ _ h => h) (Or.inl ⟨by kernel_rfl, fun w _ => rfl⟩) (by assumption) ?_
            try simp only [Act.put, List.setIfInBounds_toArray, List.set_cons_zero, List.set_cons_succ]
            refine wpAnyH_take (i := 7) (oi := ⟨some 49, _, _, _, _, _⟩) (v := .pointer (some ⟨b1, o1 + i, none⟩)) rfl (by kernel_rfl) (by kernel_rfl) (by kernel_rfl) (fun _ _ _ h => h) (Or.inl ⟨by kernel_rfl, by intro w _; go_simp; (try omega)⟩) (by assumption) ?_
            try simp only [Act.put, List.setIfInBounds_toArray, List.set_cons_zero, List.set_cons_succ]
            refine wpAnyH_take (i := 8) (oi := ⟨some 50, _, _, _, _, _⟩) (v := .string x) rfl (by kernel_rfl) (by kernel_rfl) (by kernel_rfl) (fun _ _ _ h => h) (Or.inl ⟨by kernel_rfl, by intro w hSw; (try dsimp only at hSw); go_simp⟩) (by assumption) ?_
            try simp only [Act.put, List.setIfInBounds_toArray, List.set_cons_zero, List.set_cons_succ]
            refine wpAnyH_ready (rs := [1]) (by kernel_rfl) (by simp) ?_
            refine AllReadyH.cons (o := ⟨some 43, _, _, _, _, _⟩) rfl (fun K hK => ?_) AllReadyH.nil
            go_simp
            refine hK.out _ _ ?_ (fun hHeld2 => ?_)
            · exact cell_later (((Below.refl wr.heap.size wr).drew).alloc (Nat.le_refl _) _) d1
            clear hK K
            try simp only [Act.put, List.setIfInBounds_toArray, List.set_cons_zero, List.set_cons_succ]
            refine wpAnyH_take (i := 3) (oi := ⟨some 45, _, _, _, _, _⟩) (v := .pointer (some ⟨wr.heap.size, 3, none⟩)) rfl (by kernel_rfl) (by kernel_rfl) (by kernel_rfl) (fun _ _ _ h => h) (Or.inl ⟨by kernel_rfl, by intro w _; go_simp; (try omega)⟩) (by assumption) ?_
            try simp only [Act.put, List.setIfInBounds_toArray, List.set_cons_zero, List.set_cons_succ]
            refine wpAnyH_ready (rs := [4]) (by kernel_rfl) (by simp) ?_
            refine AllReadyH.cons (o := ⟨some 46, _, _, _, _, _⟩) rfl (fun K hK => ?_) AllReadyH.nil
            go_simp
            refine hK.out _ _ hHeld2 (fun hHeld3 => ?_)
            clear hK K
            try simp only [Act.put, List.setIfInBounds_toArray, List.set_cons_zero, List.set_cons_succ]
            refine wpAnyH_take (i := 9) (oi := ⟨some 51, _, _, _, _, _⟩) (v := .string ((⟨#[47, 120, 47, 46, 46, 47]⟩ : ByteArray) ++ x)) rfl (by kernel_rfl) (by kernel_rfl) (by kernel_rfl) (fun _ _ _ h => h) (Or.inl ⟨by kernel_rfl, by intro w _; go_simp; (try omega)⟩) (by assumption) ?_
            try simp only [Act.put, List.setIfInBounds_toArray, List.set_cons_zero, List.set_cons_succ]
            refine wpAnyH_take (i := 10) (oi := ⟨some 52, _, _, _, _, _⟩) (v := .string (acc ++ ((⟨#[47, 120, 47, 46, 46, 47]⟩ : ByteArray) ++ x))) rfl (by kernel_rfl) (by kernel_rfl) (by kernel_rfl) (fun _ _ _ h => h) (Or.inl ⟨by kernel_rfl, by intro w _; go_simp; (try omega)⟩) (by assumption) ?_
            try simp only [Act.put, List.setIfInBounds_toArray, List.set_cons_zero, List.set_cons_succ]
            refine wpAnyH_take (i := 11) (oi := ⟨some 7, _, _, _, _, _⟩) (v := .string (acc ++ ((⟨#[47, 120, 47, 46, 46, 47]⟩ : ByteArray) ++ x))) rfl (by kernel_rfl) (by kernel_rfl) (by kernel_rfl) (fun _ _ _ h => h) (Or.inl ⟨by kernel_rfl, fun w _ => rfl⟩) (by assumption) ?_
            try simp only [Act.put, List.setIfInBounds_toArray, List.set_cons_zero, List.set_cons_succ]
            refine wpAnyH_done (by kernel_rfl) ?_ _
            go_wp2_with fail
            go_roundw
            case rel => exact ⟨i + 1, acc ++ (sepB 3 ++ x), by go_num, rfl, by omega, by have := sep_size 3; rw [ByteArray.size_append, ByteArray.size_append]; omega, Lib.hid (HN.out 3 HK.out), Lib.hid ((HB.out.drew).alloc (by have := HB.out.size; exact this) _)⟩
            case measure => simp [intOf]; omega
        · have m3 : ¬ (i : Int) < (len1 : Int) := by omega
          have HK : Hid (kindAt zs i = 0) := Lib.hid (kind_out (by rw [HA1.out.1.1]; omega))
          clear hm
          go_wp2_with fail
          refine wp_region_held_drew (S := fun W => W.cell? ⟨b1, o1 + i, none⟩ = some (.string x)) (by kernel_rfl) d1 (fun hHeld => ?_)
          refine wpAnyH_take (i := 0) (oi := ⟨some 42, _, _, _, _, _⟩) (v := .string acc) rfl (by kernel_rfl) (by kernel_rfl) (by kernel_rfl) (fun _ _ _ h => h) (Or.inl ⟨by kernel_rfl, fun w _ => rfl⟩) (by assumption) ?_
          try simp only [Act.put, List.setIfInBounds_toArray, List.set_cons_zero, List.set_cons_succ]
          refine wpAnyH_take (i := 2) (oi := ⟨some 44, _, _, _, _, _⟩) (v := .int .i64 0) rfl (by kernel_rfl) (by kernel_rfl) (by kernel_rfl) (fun _ _ _ h => h) (Or.inl ⟨by kernel_rfl, fun w _ => rfl⟩) (by assumption) ?_
          try simp only [Act.put, List.setIfInBounds_toArray, List.set_cons_zero, List.set_cons_succ]
          refine wpAnyH_take (i := 5) (oi := ⟨some 47, _, _, _, _, _⟩) (v := .slice (some ⟨b1, o1, none⟩) len0 cap0) rfl (by kernel_rfl) (by kernel_rfl) (by kernel_rfl) (fun _ _ _ h => h) (Or.inl ⟨by kernel_rfl, fun w _ => rfl⟩) (by assumption) ?_
          try simp only [Act.put, List.setIfInBounds_toArray, List.set_cons_zero, List.set_cons_succ]
          refine wpAnyH_take (i := 6) (oi := ⟨some 48, _, _, _, _, _⟩) (v := .int .i64 (i : Int)) rfl (by kernel_rfl) (by kernel_rfl) (by kernel_rfl) (fun _ _ _ h => h) (Or.inl ⟨by kernel_rfl, fun w _ => rfl⟩) (by assumption) ?_
          try simp only [Act.put, List.setIfInBounds_toArray, List.set_cons_zero, List.set_cons_succ]
          refine wpAnyH_take (i := 7) (oi := ⟨some 49, _, _, _, _, _⟩) (v := .pointer (some ⟨b1, o1 + i, none⟩)) rfl (by kernel_rfl) (by kernel_rfl) (by kernel_rfl) (fun _ _ _ h => h) (Or.inl ⟨by kernel_rfl, by intro w _; go_simp; (try omega)⟩) (by assumption) ?_
          try simp only [Act.put, List.setIfInBounds_toArray, List.set_cons_zero, List.set_cons_succ]
          refine wpAnyH_take (i := 8) (oi := ⟨some 50, _, _, _, _, _⟩) (v := .string x) rfl (by kernel_rfl) (by kernel_rfl) (by kernel_rfl) (fun _ _ _ h => h) (Or.inl ⟨by kernel_rfl, by intro w hSw; (try dsimp only at hSw); go_simp⟩) (by assumption) ?_
          try simp only [Act.put, List.setIfInBounds_toArray, List.set_cons_zero, List.set_cons_succ]
          refine wpAnyH_ready (rs := [1]) (by kernel_rfl) (by simp) ?_
          refine AllReadyH.cons (o := ⟨some 43, _, _, _, _, _⟩) rfl (fun K hK => ?_) AllReadyH.nil
          go_simp
          refine hK.out _ _ ?_ (fun hHeld2 => ?_)
          · exact cell_later (((Below.refl wr.heap.size wr).drew).alloc (Nat.le_refl _) _) d1
          clear hK K
          try simp only [Act.put, List.setIfInBounds_toArray, List.set_cons_zero, List.set_cons_succ]
          refine wpAnyH_take (i := 3) (oi := ⟨some 45, _, _, _, _, _⟩) (v := .pointer (some ⟨wr.heap.size, 0, none⟩)) rfl (by kernel_rfl) (by kernel_rfl) (by kernel_rfl) (fun _ _ _ h => h) (Or.inl ⟨by kernel_rfl, by intro w _; go_simp; (try omega)⟩) (by assumption) ?_
          try simp only [Act.put, List.setIfInBounds_toArray, List.set_cons_zero, List.set_cons_succ]
          refine wpAnyH_ready (rs := [4]) (by kernel_rfl) (by simp) ?_
          refine AllReadyH.cons (o := ⟨some 46, _, _, _, _, _⟩) rfl (fun K hK => ?_) AllReadyH.nil
          go_simp
          refine hK.out _ _ hHeld2 (fun hHeld3 => ?_)
          clear hK K
          try simp only [Act.put, List.setIfInBounds_toArray, List.set_cons_zero, List.set_cons_succ]
          refine wpAnyH_take (i := 9) (oi := ⟨some 51, _, _, _, _, _⟩) (v := .string ((⟨#[47]⟩ : ByteArray) ++ x)) rfl (by kernel_rfl) (by kernel_rfl) (by kernel_rfl) (fun _ _ _ h => h) (Or.inl ⟨by kernel_rfl, by intro w _; go_simp; (try omega)⟩) (by assumption) ?_
          try simp only [Act.put, List.setIfInBounds_toArray, List.set_cons_zero, List.set_cons_succ]
          refine wpAnyH_take (i := 10) (oi := ⟨some 52, _, _, _, _, _⟩) (v := .string (acc ++ ((⟨#[47]⟩ : ByteArray) ++ x))) rfl (by kernel_rfl) (by kernel_rfl) (by kernel_rfl) (fun _ _ _ h => h) (Or.inl ⟨by kernel_rfl, by intro w _; go_simp; (try omega)⟩) (by assumption) ?_
          try simp only [Act.put, List.setIfInBounds_toArray, List.set_cons_zero, List.set_cons_succ]
          refine wpAnyH_take (i := 11) (oi := ⟨some 7, _, _, _, _, _⟩) (v := .string (acc ++ ((⟨#[47]⟩ : ByteArray) ++ x))) rfl (by kernel_rfl) (by kernel_rfl) (by kernel_rfl) (fun _ _ _ h => h) (Or.inl ⟨by kernel_rfl, fun w _ => rfl⟩) (by assumption) ?_
          try simp only [Act.put, List.setIfInBounds_toArray, List.set_cons_zero, List.set_cons_succ]
          refine wpAnyH_done (by kernel_rfl) ?_ _
          go_wp2_with fail
          go_roundw
          case rel => exact ⟨i + 1, acc ++ (sepB 0 ++ x), by go_num, rfl, by omega, by have := sep_size 0; rw [ByteArray.size_append, ByteArray.size_append]; omega, Lib.hid (HN.out 0 HK.out), Lib.hid ((HB.out.drew).alloc (by have := HB.out.size; exact this) _)⟩
          case measure => simp [intOf]; omega
      · obtain rfl : i = len0 := by omega
        have f := join_facts' (N := n0.map bytesOf) (by rw [HJ.out])
        rw [HJ.out] at f
        have hl := HX0.out.1.len
        have hap : bytesOf p = P := HQ.out
        have cP : ∀ W, Calls Try.prog 9 #[.string p] W fun e w' => SplitS (0, n0.map bytesOf) e w' ∧ Below W.heap.size W w' := fun W => by
          have c := Split_s p W (by have : P.length ≤ 289 := f.2.2.2; rw [← bytesOf_length, hap]; omega)
          rw [hap, show splitW P = (0, n0.map bytesOf) from f.2.2.1] at c
          exact c
        have i3 : ¬ (i : Int) < (i : Int) := by omega
        have t0 := str_is acc ByteArray.empty
        rw [show ByteArray.empty.toList = [] from by rw [Go.ByteArray.toList_eq]; rfl] at t0
        by_cases h0 : n0 = []
        · have hi0 : i = 0 := by rw [← hl, h0]; rfl
          have ha : acc = ByteArray.empty := bytesOf_inj (by rw [HT.out, hi0]; rfl)
          rw [decide_eq_true ha] at t0
          have cT : ∀ W, Calls Try.prog 9 #[.string ⟨#[47]⟩] W fun e w' => SplitS (0, n0.map bytesOf) e w' ∧ Below W.heap.size W w' := fun W => by
            have c := Split_s ⟨#[47]⟩ W (by decide)
            rw [show splitW (bytesOf ⟨#[47]⟩) = (0, n0.map bytesOf) from by rw [h0]; decide +kernel] at c
            exact c
          clear h0 hi0 ha f hl hap hlt
          go_wp2_with (first
            | (go_at_call 12; refine (RSame_any (xs := ns) (ys := ns) _ HX.out HY.out).mono ?_; rintro e w7 ⟨rfl, hb7⟩; have HB7 := Lib.hid (HB5.out.trans (hb7.mono HB5.out.size)); clear hb7)
            | (have gt := HB4; clear gt; go_at_call 9; refine (cP _).mono ?_; rintro e w5 ⟨⟨ms, bo, k5, rfl, hX, hk, hn, hm, hl⟩, hb5⟩; have HB5 := Lib.hid (HB4.out.trans (hb5.mono HB4.out.size)); have HX := Lib.hid (HX.out.later hb5); obtain rfl := map_inj (HM.out.trans (show n0.map bytesOf = ms.map bytesOf from hm.symm)); have HY := Lib.hid hX; clear hb5 hX hk hn hm hl)
            | (go_at_call 9; refine (cT _).mono ?_; rintro e w4 ⟨⟨ns, ao, k4, rfl, hX, hk, hn, hm, hl⟩, hb4⟩; have HB4 := Lib.hid (HB.out.trans (hb4.mono HB.out.size)); have HM : Hid (ns.map bytesOf = n0.map bytesOf) := Lib.hid hm; have HX := Lib.hid hX; clear hb4 hX hk hn hm hl))
          go_ret
          exact ⟨by simp, HB7.out⟩
        · have ha : ¬ acc = ByteArray.empty := fun e => by
            have h1 := HT.out
            rw [e] at h1
            have h2 : dotsS (ksTo zs n0 i) = [] := h1.symm
            have hi : 0 < i := by
              rw [← hl]
              exact List.length_pos_iff.2 h0
            obtain ⟨q, hq⟩ : ∃ q, i = q + 1 := ⟨i - 1, by omega⟩
            rw [hq, ks_succ, dots_snoc] at h2
            have h3 := (List.append_eq_nil_iff.1 (List.append_eq_nil_iff.1 h2).2).1
            have h4 := sep_bytes (kindAt zs q)
            rw [show sepL _ = [] from h3] at h4
            have h5 := kind_lt zs q
            rcases (show kindAt zs q = 0 ∨ kindAt zs q = 1 ∨ kindAt zs q = 2 ∨ kindAt zs q = 3 by omega) with h | h | h | h <;> rw [h] at h4 <;> exact absurd h4 (by decide)
          rw [decide_eq_false ha] at t0
          have cT : ∀ W, Calls Try.prog 9 #[.string acc] W fun e w' => SplitS (0, n0.map bytesOf) e w' ∧ Below W.heap.size W w' := fun W => by
            have c := Split_s acc W (by omega)
            rw [dots_split f.1 (by rw [hl]; exact hl16) h0 (by rw [hl]; exact HT.out)] at c
            exact c
          clear h0 ha f hl hap hlt
          go_wp2_with (first
            | (go_at_call 12; refine (RSame_any (xs := ns) (ys := ns) _ HX.out HY.out).mono ?_; rintro e w7 ⟨rfl, hb7⟩; have HB7 := Lib.hid (HB5.out.trans (hb7.mono HB5.out.size)); clear hb7)
            | (have gt := HB4; clear gt; go_at_call 9; refine (cP _).mono ?_; rintro e w5 ⟨⟨ms, bo, k5, rfl, hX, hk, hn, hm, hl⟩, hb5⟩; have HB5 := Lib.hid (HB4.out.trans (hb5.mono HB4.out.size)); have HX := Lib.hid (HX.out.later hb5); obtain rfl := map_inj (HM.out.trans (show n0.map bytesOf = ms.map bytesOf from hm.symm)); have HY := Lib.hid hX; clear hb5 hX hk hn hm hl)
            | (go_at_call 9; refine (cT _).mono ?_; rintro e w4 ⟨⟨ns, ao, k4, rfl, hX, hk, hn, hm, hl⟩, hb4⟩; have HB4 := Lib.hid (HB.out.trans (hb4.mono HB.out.size)); have HM : Hid (ns.map bytesOf = n0.map bytesOf) := Lib.hid hm; have HX := Lib.hid hX; clear hb4 hX hk hn hm hl))
          go_ret
          exact ⟨by simp, HB7.out⟩
  · have b5 : (e1 == 0) = false := by simpa using h1
    have b6 : (e1 != 0) = true := by simpa using h1
    clear h1
    go_enter Try.func8, Try.ntmps8
    go_wp2_with (first
      | (have gt := HB2; clear gt; go_at_call 11; refine (c8 _).mono ?_; rintro e w3 ⟨rfl, hb3⟩; have HB3 := Lib.hid (HB2.out.trans (hb3.mono HB2.out.size)); clear hb3)
      | (go_at_call 11; refine (c8 _).mono ?_; rintro e w2 ⟨rfl, hb2⟩; have HB2 := Lib.hid (HB1.out.trans (hb2.mono HB1.out.size)); clear hb2)
      | (go_at_call 13; refine c1.mono ?_; rintro e w1 ⟨⟨p, rfl, hq⟩, hb1⟩; have HB1 := Lib.hid hb1; clear hb1 hq))
    go_ret
    exact ⟨rfl, HB3.out⟩

/-! ### The law's step -/
set_option maxRecDepth 100000 in
theorem lifted (os : Os) (started : os.Started) (H : Type) (enc : TypeId × Value → H) :
    ReturnsInHanded {} Try.checked os 8 .any (Rows.pathDotsSpec.pre6 enc Try.prog Try.f8 Rows.pathDotsRow.domain false) (Rows.pathDotsSpec.post enc Try.prog Try.f8 false true false false) := by
  refine returnsInHanded_of_change_sized (C := Try.checked) own started (by kernel_rfl) Try.func8
    (ChangeSpec.witness6 (enc := enc) (C := Try.checked) false ⟨#[], #[.slice none 0 0, .slice none 0 0], []⟩ 8 (by kernel_rfl) (by kernel_rfl) (by kernel_rfl) (by kernel_rfl)) ?_
  intro W base args ds gs before hval0 hW hcnd hsz0 _
  have hsz : (DataW.weightsEach Try.prog (Try.f8.params.toList ++ Rows.pathDotsSpec.plain.varTypes Try.prog) (ds ++ gs)).all (· ≤ reachBytes) = true := hsz0
  clear hsz0
  have hval : ∀ (j : Nat) t v, Try.f8.params[j]? = some t → args[j]? = some v → Value.okWide Try.prog W .any base t v := hval0
  have hW' := hW
  obtain ⟨p, q, hA0, hV, rfl, hfz, hnd⟩ := hW
  have hA : DataW.TrodAll enc Try.prog W 0 (fun _ => true) true Try.f8.params.toList args.toList ds p := hA0
  rw [Try.params8] at hA hval hsz
  obtain ⟨v0, vs0, d0, ds0, p0, q0, hargs, rfl, rfl, h0, r0⟩ := trodAll_cons hA
  obtain ⟨v1, vs1, d1, ds1, p1, q1, rfl, rfl, rfl, h1, r1⟩ := trodAll_cons r0
  obtain ⟨rfl, rfl, rfl⟩ := trodAll_nil r1
  obtain rfl : args = #[v0, v1] := by cases args; simp_all
  obtain ⟨rfl, rfl⟩ := trodVars_none hV
  have k0 := h0
  have lt0 : ∀ x ∈ p0, x.block < W.heap.size := by obtain ⟨m, hm⟩ := k0; exact DataW.trod_lt m _ _ _ hm
  obtain ⟨a0, len0, cap0, rfl⟩ := okWide_slice Try.underlying22 (hval 0 22 v0 rfl rfl)
  obtain ⟨n0, w0⟩ := open_strs_arg k0 (weights_ofS hsz (j := 0) rfl rfl)
  have k1 := h1
  have lt1 : ∀ x ∈ p1, x.block < W.heap.size := by obtain ⟨m, hm⟩ := k1; exact DataW.trod_lt m _ _ _ hm
  obtain ⟨a1, len1, cap1, rfl⟩ := okWide_slice Try.underlying37 (hval 1 37 v1 rfl rfl)
  obtain ⟨z1, w1, rch1⟩ := open_bytes k1 (fun e s hd => sized_slice hsz (j := 1) (t := 37) (e := 5) rfl (by rw [hd]; rfl) Try.underlying37)
  clear hA0 hval0
  refine (walk a0 len0 cap0 n0 a1 len1 cap1 z1 W w0 w1 rch1).mono fun e W' ⟨he, bel⟩ => ?_
  subst he
  exact ⟨_, rfl, _, _, _, [], _, [], hW', trodAll_mk1 (shut_bool Try.underlying4 _), (trodAll_cons_mk (Below.trod laidOut (by kernel_rfl) (of_decide_eq_true (by kernel_rfl)) k0 bel lt0) (trodAll_cons_mk (Below.trod laidOut (by kernel_rfl) (of_decide_eq_true (by kernel_rfl)) k1 bel lt1) trodAll_mk0)), rfl, bel.frame _, fun h => by cases h⟩

theorem over : Rows.pathDotsRow.holds Try.pinned (OpenSpec.ofChange Rows.pathDotsSpec) :=
  OpenClaim.holds_of_wide 8 Try.f8 rfl rfl rfl rfl rfl rfl rfl ⟨rfl, rfl, rfl, rfl, rfl⟩ rfl rfl rfl rfl rfl (by kernel_rfl) Try.func8 (by kernel_rfl)
    (of_decide_eq_true (by kernel_rfl)) (by unfold Func.isWrapper; first | (rw [if_pos (by decide +kernel)]; kernel_rfl) | (rw [if_neg (by decide +kernel)]; exact ⟨rfl, rfl⟩))
    (fun os started H enc _ => lifted os started H enc)

/-- The statement. -/
theorem proved : Rows.PathDotsSaid := over
end Go.Proofs.Ytjhdhglbgbpckaa.pathDots
