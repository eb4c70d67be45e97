/-
  Proved here: what the law's seen answers; of a journal that answers as JournalOk says.
  The conditions stand at each theorem.
-/
import Derived.Test.YtbnepjojfaeggaaJBegin
namespace Go.Proofs.Ytbnepjojfaeggaa
open Go.RowKit
set_option linter.unusedVariables false
set_option linter.unusedSimpArgs false

/-- The blocks as a journal reads them, the first i. -/
def readS (M : JM) (d : DM) (s : M.S) (i : Nat) : List ByteArray := (List.range i).map fun (k : Nat) => str (M.readP d s (k : Int)).1
theorem readS_succ (M : JM) (d : DM) (s : M.S) (i : Nat) : readS M d s (i + 1) = readS M d s i ++ [str (M.readP d s (i : Int)).1] := by
  unfold readS
  rw [List.range_succ, List.map_append]
  rfl

set_option maxRecDepth 100000 in
set_option maxHeartbeats 3200000 in
theorem seen_any {M : JM} {JI : World → Addr → Addr → (Nat → Prop) → M.S → Prop} (K : JournalOk M JI) {w : World} {g n nc : Nat} {na : Option Addr} {a j : Addr} {maybe : Value} {dead : Bool} {F G : Nat → Prop} {d : DM} {s : M.S}
    (hg : GameAt w g a j (.slice na n nc) maybe dead) (hn : n ≤ 480) (hD : DI w a F d) (hJ : JI w j a G s) (hr : ∀ i : Nat, i < n → (M.readP d s (i : Int)).2 = 0) :
    Calls Try.prog 15 #[.pointer (some ⟨g, 0, none⟩)] w fun e w' => ∃ v, e = .returned v ∧ w'.ownsRow w.heap.size 9 1 v n (strs (readS M d s n)) ∧ Below w.heap.size w w' := by
  have HG := Lib.hid hg
  have HD := Lib.hid hD
  have HJ := Lib.hid hJ
  have HR := Lib.hid hr
  have HO0 : Hid ((w.alloc (.cells #[] 9)).ownsRow w.heap.size 9 1 (.slice (some ⟨w.heap.size, 0, none⟩) 0 0) 0 (strs (readS M d s 0))) := Lib.hid (World.ownsRow_made (base := w.heap.size) (e := 9) (size := 1) w #[] 0 (Nat.le_refl _) (by decide) rfl)
  have B0 : Hid (Below w.heap.size w (w.alloc (.cells #[] 9))) := Lib.hid ((Below.refl _ _).alloc (Nat.le_refl _) _)
  clear hg hD hJ hr
  go_enter Try.func15, Try.ntmps15
  go_wp2_with fail
  go_loopw [3, 4] (fun ov iv wr => ∃ i : Nat, iv = .int .i64 (i : Int) ∧ i ≤ n ∧ Hid (wr.ownsRow w.heap.size 9 1 ov i (strs (readS M d s i))) ∧ Hid (Below w.heap.size w wr)) (fun _ iv _ => n - (intOf iv).toNat)
  case atStart => exact ⟨0, rfl, Nat.zero_le _, HO0, B0⟩
  case round =>
    obtain ⟨i, rfl, hi, HO, HB⟩ := hrel
    have c1 := cell_later HB.out HG.out.2.1
    have c2 := cell_later HB.out HG.out.2.2.1
    by_cases hlt : i < n
    · have i1 : (i : Int) < (n : Int) := by omega
      have cR := K.read (w := wr) (i : Int) (diskOk.later HD.out HB.out) (K.kept HJ.out (fun k hk => HB.out.block k (K.lt HJ.out k hk)) HB.out.size) (by unfold I64; omega) (by rw [HR.out i hlt]; decide)
      rw [HR.out i hlt] at cR
      have HST := Lib.hid (readS_succ M d s i)
      obtain ⟨L, hL⟩ : ∃ L, (M.readP d s (i : Int)).1 = L := ⟨_, rfl⟩
      rw [hL] at cR HST
      clear hL
      obtain ⟨la, lc, rfl⟩ := owns_shape_r HO.out
      go_wp2_with (first
        | (refine wp_append_at elemSR rfl (.tmp 28) (.tmp 31) rfl w.heap.size i (.slice la i lc) _ rfl ((owns_later_r HO.out HB3.out).alloc _) ⟨w3.heap.size, 0, none⟩ 1 1 [.string (str L)] rfl (by decide) rfl (news_f w3 [.string (str L)] _) (by intro u hu; simp only [List.mem_cons, List.mem_nil_iff, or_false] at hu; rcases hu with rfl; rfl) (by omega) (by have h1 := HB.out.size; have h2 := HB3.out.size; simp; omega) ?_; intro v8 w8 hown8 _ hb8 _; have HO8 := Lib.hid hown8; have B8 : Hid (Below w.heap.size w w8) := Lib.hid (((HB.out.trans (HB3.out.mono HB.out.size)).alloc (Nat.le_trans HB.out.size HB3.out.size) _).trans hb8); clear hown8 hb8)
        | (go_at_call 18; refine cR.mono ?_; rintro e w3 ⟨v3, rfl, ⟨ao3, p3, rfl, hA3, _⟩, hb3⟩; have hcv := str_bytes hA3.1 (cap := p3); have HB3 := Lib.hid hb3; clear hA3 hb3))
      go_roundw
      case rel => exact ⟨i + 1, by go_num, by omega, Lib.hid (by rw [HST.out, strs_append]; exact HO8.out), B8⟩
      case measure => simp [intOf]; omega
    · obtain rfl : i = n := by omega
      go_wp2_with fail
      go_ret
      exact ⟨_, rfl, HO.out, HB.out⟩

end Go.Proofs.Ytbnepjojfaeggaa
