/-
  Proved here: that the simplest facts of layer 16 hold (awake), of a journal that answers as JournalOk and JournalGood say.
  The conditions stand at each theorem.
-/
import Derived.Test.YtbnepjojfaeggaaJrnGood
namespace Go.Proofs.Ytbnepjojfaeggaa
open Go.RowKit
set_option linter.unusedVariables false
set_option linter.unusedSimpArgs false

/-- 64 bytes, the sixth of them 9. -/
def nine64 : List Int := (List.replicate 64 0).set 5 9
theorem nine_check (n : Nat) (h : 61 ≤ n) : checkW [((60 : Int), nine64)] n = 0 := by
  unfold checkW
  rw [if_neg (by simp), if_neg (by
    simp only [List.any_cons, List.any_nil, Bool.or_false]
    unfold badW
    rw [decide_eq_true_eq]
    rintro (h2 | h2)
    · exact h2 rfl
    · simp only at h2; omega)]
  rfl

theorem nine_put : (putS (List.replicate 70 zeroS) [((60 : Int), nine64)])[60]? = some (str nine64) := by
  show (putS1 (List.replicate 70 zeroS) ((60 : Int), nine64))[60]? = _
  unfold putS1
  rw [if_pos (by rw [List.length_replicate]; decide)]
  rw [List.getElem?_set]
  simp

set_option maxRecDepth 100000 in
set_option maxHeartbeats 6400000 in
theorem awake16_any {M : JM} {JI : World → Addr → Addr → (Nat → Prop) → M.S → Prop} (K : JournalOk M JI) (Q : JournalGood M) (w : World) :
    Calls Try.prog 8 #[] w fun e w' => e = .returned (.bool true) ∧ Below w.heap.size w w' := by
  obtain ⟨s0, hs0, hlv0, hl0, hn0⟩ := Q.begins 70 (by decide) (by decide)
  have cB := begin_any K 70 w (by decide) (by decide) s0 hs0
  rw [show ((70 : Nat) : Int) = 70 from rfl] at cB
  obtain ⟨d0, hd0⟩ : ∃ d0, (M.openP (beginD 70)).1 = d0 := ⟨_, rfl⟩
  rw [hd0] at hlv0 hl0 hn0
  have hck := nine_check 70 (by decide)
  have hcy := Q.commit_yes (ws := [((60 : Int), nine64)]) hlv0 (by decide) (by rw [hn0]; exact hck) (by simp)
  have hcy2 : (M.commitP d0 s0 [((60 : Int), nine64)]).2.2 = 0 ∧ Q.Live (M.commitP d0 s0 [((60 : Int), nine64)]).1 (M.commitP d0 s0 [((60 : Int), nine64)]).2.1 (putS (List.replicate 70 zeroS) [((60 : Int), nine64)]) 1 := hcy.2.resolve_right (fun h => by omega)
  have hsm := (Q.live_small hlv0).1
  obtain ⟨⟨d1, s1, e1⟩, hr1⟩ : ∃ r, M.commitP d0 s0 [((60 : Int), nine64)] = r := ⟨_, rfl⟩
  rw [hr1] at hcy hcy2
  simp only at hcy hcy2
  obtain ⟨rfl, hlv1⟩ := hcy2
  have hn1 : d1.n = 70 := by rw [← hn0]; exact hcy.1
  have hh := (Q.live_holds hlv1).2 60 (by rw [hn1]; decide)
  have hhd := Q.head hlv1
  have HB := Lib.hid hd0
  have HLV := Lib.hid (And.intro hsm hr1)
  rw [show ((60 : Nat) : Int) = 60 from rfl] at hh
  have hs9 := hh.2 (by decide)
  rw [nine_put] at hs9
  have HRD := Lib.hid (And.intro hh.1 (Option.some.inj hs9).symm)
  have HHD := Lib.hid hhd
  clear hcy hlv0 hl0 hn0 hck hsm hr1 hn1 hh hhd hlv1 hs0 hd0
  go_enter Try.func8, Try.ntmps8
  go_wp2_with (first
    | (go_at_call 7; refine cB.mono ?_; rintro e w1 ⟨g, a, j, F, G, na, nc, rfl, hGA, hDI, hJI, hdj, hF, hG, hwg, _, hb1⟩; rw [HB.out] at hDI; have HGA := Lib.hid hGA; have HDI := Lib.hid hDI; have HJI := Lib.hid hJI; have HDJ := Lib.hid hdj; have HF := Lib.hid hF; have HG := Lib.hid hG; have HWG := Lib.hid hwg; have B1 := Lib.hid hb1; have y1 := hGA.2.1; clear hGA hDI hJI hdj hF hG hwg hb1; have hmk := run_make_bytes w1 64 (by decide); rw [show ((64 : Nat) : Int) = 64 from rfl] at hmk; have hO := made_own w1 64; obtain ⟨gk, hgk⟩ : ∃ gk, w1.heap.size = gk := ⟨_, rfl⟩; obtain ⟨W5, hW5⟩ : ∃ W5, w1.alloc (.cells (madeCells #[.int .u8 0] 64) 5) = W5 := ⟨_, rfl⟩; rw [hW5] at hmk hO; rw [hgk] at hmk hO; have hO9 := hO.store (k := 5) (y := 9) (by decide) (by decide); have c5 : W5.cell? ⟨gk, 5, none⟩ = some (.int .u8 0) := hO.2.1 5 (by decide); have f5 := hO.2.2.1 5; have HO9 := Lib.hid hO9; have y6 : (W5.setCell ⟨gk, 5, none⟩ (.int .u8 9)).cell? ⟨g, 1, none⟩ = some (.pointer (some j)) := cell_later (by rw [hgk]; exact hO9.2.2.2.2) y1; clear hO hO9 hW5 y1; have HGK := Lib.hid hgk; clear hgk))
  obtain ⟨W6, hW6⟩ : ∃ W6, W5.setCell ⟨gk, 5, none⟩ (.int .u8 9) = W6 := ⟨_, rfl⟩
  have hsz : W5.heap.size = W6.heap.size := by rw [← hW6]; simp
  rw [hW6] at HO9 y6
  rw [hsz, hW6]
  have hA : Arg W6 (some ⟨gk, 0, none⟩) 64 64 nine64 := ⟨HO9.out.bts (by decide), (fun h => by cases h), Nat.le_refl _, by decide⟩
  have hgs : gk ≤ W6.heap.size := by rw [← HGK.out]; exact HO9.out.2.2.2.2.size
  have hL := list_one (T := 48) (G := fun k => gk ≤ k) (x := 60) hA (by decide) (fun b o s h => by cases h; exact Nat.le_refl _) hgs
  have hB7 : Below gk w1 (W6.alloc (.cells #[.int .i64 60, .slice (some ⟨gk, 0, none⟩) 64 64] 48)) := HO9.out.2.2.2.2.alloc hgs _
  have hB7' : Below w1.heap.size w1 (W6.alloc (.cells #[.int .i64 60, .slice (some ⟨gk, 0, none⟩) 64 64] 48)) := by rw [HGK.out]; exact hB7
  have hgl : g < w1.heap.size := HGA.out.lt
  refine (K.commit (fun k => gk ≤ k) (some ⟨W6.heap.size, 0, none⟩) 1 1 [((60 : Int), nine64)] (diskOk.later HDI.out hB7') (K.kept HJI.out (fun k hk => hB7'.block k (K.lt HJI.out k hk)) hB7'.size) (fun k hF hG => HDJ.out k hG hF) hL (fun k hk => by have := HF.out k hk; have := HGK.out; omega) (fun k hk => by have := HG.out k hk; have := HGK.out; omega) HLV.out.1).mono ?_
  rintro e w2 ⟨F2, G2, rfl, hD2, hJ2, hFG2, hG2⟩
  rw [HLV.out.2] at hD2 hJ2
  rw [HLV.out.2]
  have B2 : Hid (Below w.heap.size w w2) := Lib.hid (hG2.below (B1.out.trans (hB7'.mono B1.out.size)) (B1.out.trans (hB7'.mono B1.out.size)).size (fun k hk => hk.elim (fun h => (HF.out k h).1) (fun h => (HG.out k h).1)))
  have y2 : w2.cell? ⟨g, 1, none⟩ = some (.pointer (some j)) := by
    rw [cell_of_heap (p := ⟨g, 1, none⟩) (hG2.2.2.2.2.1 g (Nat.lt_of_lt_of_le hgl hB7'.size) (fun h => h.elim (fun h => by have := HF.out g h; omega) (fun h => by have := HG.out g h; omega)))]
    exact cell_later hB7' HGA.out.2.1
  have cR := K.read (60 : Int) hD2 hJ2 (by unfold I64; omega) (by rw [HRD.out.1]; decide)
  have HJ2 := Lib.hid hJ2
  have HRE := HRD.out.1
  rw [HRE] at cR
  have HRL := Lib.hid HRD.out.2
  obtain ⟨L, hLL⟩ : ∃ L, (M.readP d1 s1 60).1 = L := ⟨_, rfl⟩
  rw [hLL] at cR HRL
  have hfd : ∀ (a b : Int) (w : World), (Instr.field 58 (.agg #[.int .i64 a, .int .i64 b]) 1).run Try.prog w = .ok (.int .i64 b) w := fun _ _ _ => by kernel_rfl
  have hhd : (M.headP s1).2 > 0 := HHD.out
  obtain ⟨⟨ha, hb⟩, hHP⟩ : ∃ r, M.headP s1 = r := ⟨_, rfl⟩
  have HHP := Lib.hid hHP
  rw [hHP] at hhd
  simp only at hhd
  clear hHP
  clear HRE hLL hD2 hJ2 hFG2 hG2 hgl hB7 hB7' hL hgs hA y6 hsz hW6 hmk c5 f5 HRD
  go_wp2_with (first
    | (go_at_call 20; refine (K.head (K.kept HJ2.out (fun k hk => B3.out.block k (K.lt HJ2.out k hk)) B3.out.size)).mono ?_; rintro e w4 ⟨rfl, hb4⟩; rw [HHP.out]; have HB4 := Lib.hid hb4; clear hb4)
    | (go_at_call 18; refine cR.mono ?_; rintro e w3 ⟨v3, rfl, ⟨ao3, p3, rfl, hA3, hf3⟩, hb3⟩; have hL9 : L = nine64 := (by have h1 := congrArg bytesOf HRL.out; rw [bytesOf_str hA3.1.2.2.1, bytesOf_str (by decide)] at h1; exact h1); subst hL9; obtain ⟨g3, o3, rfl, _⟩ := hf3.resolve_left (by decide); have z3 := (hA3.1.2.2.2.resolve_left (by decide)); obtain ⟨b3, p3', he3, hc3⟩ := z3; cases he3; have c9 := hc3 5 (by decide); have y3 := cell_later hb3 y2; have B3 := Lib.hid hb3; clear hA3 hb3 hc3 hf3))
  go_ret
  exact ⟨rfl, (B2.out.trans (B3.out.mono B2.out.size)).trans (HB4.out.mono (B2.out.trans (B3.out.mono B2.out.size)).size)⟩

end Go.Proofs.Ytbnepjojfaeggaa
