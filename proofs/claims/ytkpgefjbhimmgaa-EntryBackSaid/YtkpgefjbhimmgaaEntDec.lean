/-
  Proved here: what the landed entry answers of any bytes (Decode), and of any name in any blocks (Find).
  The conditions stand at each theorem.
-/
import Derived.Test.YtkpgefjbhimmgaaEntRead
import Derived.Deep.QuietTactic
import Derived.BigQuiet
namespace Go.Proofs.Ytkpgefjbhimmgaa
open Go.RowKit
set_option linter.unusedVariables false
set_option linter.unusedSimpArgs false

theorem bytesEq_any (ao bo : Option Addr) (al ac bl bc : Nat) (xs ys : List Int) (w : World) (hx : Bts w ao al xs) (hy : Bts w bo bl ys) :
    Calls Try.prog 31 #[.slice ao al ac, .slice bo bl bc] w fun e w' => e = .returned (.bool (decide (xs = ys))) ∧ w = w' := by
  have h1 := str_bytes (cap := ac) hx
  have h2 := str_bytes (cap := bc) hy
  have HE : Hid (((str xs).toList == (str ys).toList) = decide (xs = ys)) := Lib.hid (str_eq hx.2.2.1 hy.2.2.1)
  clear hx hy
  generalize str xs = sx at *
  generalize str ys = sy at *
  go_enter Try.func31, Try.ntmps31
  go_wp2
  go_ret
  exact ⟨by rw [← HE.out]; rfl, rfl⟩

/-- What Decode answers. -/
def DecDone (w0 : World) (zs : List Int) (e : Ending) (w : World) : Prop := ∃ v, e = .returned (.tuple #[v, .int .i64 (getEntErr zs)]) ∧ EntVal w v (getEnt zs) ∧ Below w0.heap.size w0 w

set_option maxHeartbeats 1600000 in
theorem edec_any (ao : Option Addr) (len cap : Nat) (zs : List Int) (w : World) (hA : Arg w ao len cap zs) : Calls Try.prog 15 #[.slice ao len cap] w (DecDone w zs) := by
  have HA := Lib.hid hA
  have cR := read_any ao len cap zs w hA
  have HW := Lib.hid (rd_ways zs)
  clear hA
  go_enter Try.func15, Try.ntmps15
  go_wp2_with fail
  go_at_call 30
  refine cR.mono ?_
  rintro e w2 ⟨v2, rfl, hE, hb2⟩
  obtain ⟨a2, c2, rfl, hE2⟩ := hE
  have cE := eenc_any a2 _ c2 _ w2 hE2
  have HE2 := Lib.hid hE2
  have B2 := Lib.hid hb2
  clear hE2 hb2 cR
  unfold EncDone entOut entErr at cE
  generalize hn : (rdE zs).length = n at *
  have HN := Lib.hid hn
  clear hn
  rcases HW.out with ⟨k1, k2, k3, k4⟩ | ⟨k1, k2, k3, k4⟩ | ⟨k1, k3, k4⟩
  · rw [if_pos k1, if_pos k1, k2] at cE
    have HK := Lib.hid (And.intro k3 k4)
    clear k1 k2 k3 k4
    go_wp2_with fail
    go_at_call 12
    refine cE.mono ?_
    rintro e w3 ⟨v3, rfl, hf3, hb3⟩
    obtain ⟨a3, c3, rfl, hA3⟩ := fresh_form hf3
    have B3 := Lib.hid hb3
    have cQ := bytesEq_any a3 ao _ c3 len cap zs zs w3 hA3.1 (HA.out.later (B2.out.trans (hb3.mono B2.out.size))).1
    rw [decide_eq_true rfl] at cQ
    clear hf3 hb3 hA3
    generalize zs.length = ln at *
    go_wp2_with (go_at_call 31; refine cQ.mono ?_; rintro e w6 ⟨rfl, rfl⟩)
    go_ret2
    exact ⟨.slice a2 n c2, by rw [HK.out.2]; rfl, by rw [HK.out.1]; exact ⟨a2, c2, by rw [HN.out], (by have := HE2.out.later B3.out; rwa [← HN.out] at this)⟩, B2.out.trans (B3.out.mono B2.out.size)⟩
  · rw [if_pos k1, if_pos k1] at cE
    have HK := Lib.hid (And.intro k3 k4)
    obtain ⟨O, hO⟩ : ∃ O, entBlock (rdE zs) = O := ⟨_, rfl⟩
    rw [hO] at cE k2
    have HD : Hid (decide (O = zs) = false) := Lib.hid (decide_eq_false k2)
    clear k1 k2 k3 k4 hO
    go_wp2_with fail
    go_at_call 12
    refine cE.mono ?_
    rintro e w3 ⟨v3, rfl, hf3, hb3⟩
    obtain ⟨a3, c3, rfl, hA3⟩ := fresh_form hf3
    have B3 := Lib.hid hb3
    have cQ := bytesEq_any a3 ao _ c3 len cap O zs w3 hA3.1 (HA.out.later (B2.out.trans (hb3.mono B2.out.size))).1
    rw [HD.out] at cQ
    clear hf3 hb3 hA3
    generalize O.length = ln at *
    go_wp2_with (go_at_call 31; refine cQ.mono ?_; rintro e w6 ⟨rfl, rfl⟩)
    go_ret2
    exact ⟨.slice none 0 0, by rw [HK.out.2]; rfl, by rw [HK.out.1]; exact EntVal.nil _, B2.out.trans (B3.out.mono B2.out.size)⟩
  · rw [k1, if_neg (by decide), if_neg (by decide)] at cE
    have HK := Lib.hid (And.intro k3 k4)
    clear k1 k3 k4
    go_wp2_with fail
    go_at_call 12
    refine cE.mono ?_
    rintro e w3 ⟨v3, rfl, hf3, hb3⟩
    have B3 := Lib.hid hb3
    clear hf3 hb3
    go_wp2_with fail
    go_ret2
    exact ⟨.slice none 0 0, by rw [HK.out.2]; rfl, by rw [HK.out.1]; exact EntVal.nil _, B2.out.trans (B3.out.mono B2.out.size)⟩

theorem below_drewN {base : Nat} {w w' : World} (h : Below base w w') (n : Nat) : Below base w (w'.drewN n) :=
  ⟨h.os, h.tape, h.output, h.size, fun k hk => h.block k hk⟩

/-- What Find answers. -/
def FindDone (w0 : World) (bs : List (List PEnt)) (n : ByteArray) (e : Ending) (w : World) : Prop :=
  e = .returned (.tuple #[.int .i64 (findRes bs n).1, .int .i64 (findRes bs n).2.1, .int .i64 (findRes bs n).2.2]) ∧ Below w0.heap.size w0 w

theorem find_ways (bs : List (List PEnt)) (n : ByteArray) :
    (named n = false ∧ findRes bs n = (0, 0, 1)) ∨ (named n = true ∧ 96 < bs.length ∧ findRes bs n = (0, 0, 2)) ∨ (named n = true ∧ bs.length ≤ 96 ∧ soundE bs = false ∧ findRes bs n = (0, 0, 2)) ∨
    (named n = true ∧ bs.length ≤ 96 ∧ soundE bs = true ∧ ((findIn bs n = none ∧ findRes bs n = (0, 0, 4)) ∨ ∃ i k : Nat, findIn bs n = some (i, k) ∧ findRes bs n = ((i : Int), (k : Int), 0))) := by
  have hc : checkE bs ⟨0, n⟩ = if named n = false then 1 else if 96 < bs.length ∨ soundE bs = false then 2 else 0 := by
    unfold checkE
    rw [right_zero]
  unfold findRes
  rw [hc]
  clear hc
  by_cases h1 : named n = false
  · left
    rw [if_pos h1]
    exact ⟨h1, rfl⟩
  · have h1' : named n = true := by simpa using h1
    rw [if_neg h1]
    by_cases h2 : 96 < bs.length
    · right; left
      rw [if_pos (Or.inl h2)]
      exact ⟨h1', h2, rfl⟩
    · by_cases h3 : soundE bs = false
      · right; right; left
        rw [if_pos (Or.inr h3)]
        exact ⟨h1', by omega, h3, rfl⟩
      · right; right; right
        have h4 : ¬ (96 < bs.length ∨ soundE bs = false) := fun h => h.elim h2 h3
        rw [if_neg h4, if_neg (by decide)]
        refine ⟨h1', by omega, by simpa using h3, ?_⟩
        cases hf : findIn bs n with
        | none => exact Or.inl ⟨rfl, rfl⟩
        | some p => exact Or.inr ⟨p.1, p.2, rfl, rfl⟩

set_option maxHeartbeats 1600000 in
theorem efind_any (ao : Option Addr) (len cap : Nat) (bs : List (List PEnt)) (n : ByteArray) (w : World) (hA : BlkArg w ao len cap bs) (hn : n.size ≤ 140737488351232) : Calls Try.prog 20 #[.slice ao len cap, .string n] w (FindDone w bs n) := by
  have HA := Lib.hid hA
  have cN := fun W => Named_any n W hn
  have hlen : bs.length = len := hA.1.1
  have hl2 := hA.1.2.1
  unfold FindDone
  rcases find_ways bs n with ⟨h1, hr⟩ | ⟨h1, h2, hr⟩ | ⟨h1, h2, h3, hr⟩ | ⟨h1, h2, h3, h4⟩
  · rw [h1] at cN
    rw [hr]
    clear hA hr h1
    go_enter Try.func20, Try.ntmps20
    go_wp2_with (go_at_call 18; refine (cN _).mono ?_; rintro e w' ⟨rfl, rfl⟩)
    go_ret3
    exact ⟨rfl, Below.refl _ _⟩
  · rw [h1] at cN
    rw [hr]
    have cS := spots_long ao len cap w (by omega) hl2
    clear hA hr h1
    go_enter Try.func20, Try.ntmps20
    go_wp2_with (first | (go_at_call 18; refine (cN _).mono ?_; rintro e w' ⟨rfl, rfl⟩) | (go_at_call 26; refine cS.mono ?_; rintro e w' ⟨rfl, rfl⟩))
    go_ret3
    exact ⟨rfl, Below.refl _ _⟩
  · rw [h1] at cN
    rw [hr]
    have cS := spots_any ao len cap bs w hA (by omega)
    unfold SpotsDone at cS
    simp only [h3, Bool.false_eq_true, if_false] at cS
    clear hA hr h1 h3
    go_enter Try.func20, Try.ntmps20
    go_wp2_with (first | (go_at_call 18; refine (cN _).mono ?_; rintro e w' ⟨rfl, rfl⟩) | (go_at_call 26; refine cS.mono ?_; rintro e w' ⟨rfl, b2⟩; have B2 := Lib.hid b2; clear b2))
    go_ret3
    exact ⟨rfl, B2.out⟩
  · rw [h1] at cN
    have cS := spots_any ao len cap bs w hA (by omega)
    unfold SpotsDone at cS
    simp only [h3, if_true] at cS
    clear hA h1 h3
    rcases h4 with ⟨hf, hr⟩ | ⟨i, k, hf, hr⟩
    · rw [hr]
      have HTT : Hid ((findIn bs n).isSome = false) := Lib.hid (by rw [hf]; rfl)
      clear hf hr
      go_enter Try.func20, Try.ntmps20
      go_wp2_with (first | (go_at_call 18; refine (cN _).mono ?_; rintro e w' ⟨rfl, rfl⟩) | (go_at_call 26; refine cS.mono ?_; rintro e w2 ⟨B, m, rfl, h2, b2⟩; have H2 := Lib.hid h2; have B2 := Lib.hid b2; clear h2 b2) | (at_lookup; refine wp_spot_look rfl _ _ rfl B m (findIn bs) rfl H2.out n rfl hn false HTT.out ?_; intro si sk hsk; clear hsk))
      go_ret3
      exact ⟨rfl, B2.out.trans (((Below.refl _ _).alloc (Nat.le_refl _) _).mono B2.out.size)⟩
    · rw [hr]
      have HTT : Hid ((findIn bs n).isSome = true) := Lib.hid (by rw [hf]; rfl)
      have HF := Lib.hid hf
      clear hf hr
      go_enter Try.func20, Try.ntmps20
      go_wp2_with (first | (go_at_call 18; refine (cN _).mono ?_; rintro e w' ⟨rfl, rfl⟩) | (go_at_call 26; refine cS.mono ?_; rintro e w2 ⟨B, m, rfl, h2, b2⟩; have H2 := Lib.hid h2; have B2 := Lib.hid b2; clear h2 b2) | (at_lookup; refine wp_spot_look rfl _ _ rfl B m (findIn bs) rfl H2.out n rfl hn true HTT.out ?_; intro si sk hsk; obtain ⟨e1, e2⟩ := hsk _ HF.out; dsimp only at e1 e2; subst e1; subst e2; clear hsk))
      go_quiet (fail)
      go_wp2_with fail
      go_ret3
      exact ⟨rfl, below_drewN (B2.out.trans (((Below.refl _ _).alloc (Nat.le_refl _) _).mono B2.out.size)) _⟩

end Go.Proofs.Ytkpgefjbhimmgaa
