/-
  Proved here: what each function of the package spin answers, whatever memory it is called in: the register's steps, its sum, its powers. The conditions stand at each theorem: registers are reduced, bytes lie in the cells that a slice leads to. Proved here: what the landed code of package field answers: sum and Seal. The conditions stand at each theorem. Proved here: plain facts on short texts that were sealed. No conditions but those that each theorem names. Nothing of the program is read here. Said here: what is told of a volume, and of its log, as blocks, in plain words; what the landed calls of package super are to answer (SupOk); plain facts on these. No conditions but those that each theorem names. Proved here: plain facts on blocks of Supers and Heads: what was made is read as it was; no block is both; a block of which one byte ahead of the sum is another one is neither. No conditions but those that each theorem names. Proved here: a number that was put in a block is read from it, all other bytes are as they were, and two numbers at places that do not meet may be put in either order. The conditions stand at each theorem. Nothing of the program is read here. Proved here: blocks of Supers and Heads that are made by package field's words (Text, Set, Seal; in plain words textOut, setOut, sealOut) are the blocks that the document asks. The conditions stand at each theorem. Nothing of the program is read here. Proved here: what the landed code of package field answers: place. The conditions stand at each theorem. Proved here: what the landed code of package field answers: number. The conditions stand at each theorem. Proved here: what the landed code of package field answers: Set. The conditions stand at each theorem. Proved here: what the landed code of package field answers: Get. The conditions stand at each theorem. Proved here: what the landed code of package field answers: Text. The conditions stand at each theorem. Proved here: what the landed super's small parts answer: within, the places, writing and reading place by place. The conditions stand at each theorem.
-/
import Derived.Test.YthklefelkdhblaaGreatDoorNn0
import Derived.Test.YthklefelkdhblaaGreatDoorNn1
import Derived.WalkKit
import Derived.WalkSpells
import Derived.WalkLawsBesides
import Derived.Lib.Hide
import Derived.Outline
import Derived.Deep.RegionWith
import Derived.Deep.QuietTactic
import Derived.BigQuiet
import Derived.BigRegion
import Derived.StillTailTactics
namespace Go.Proofs.YthklefelkdhblaaGreatDoor
open Go.RowKit

theorem tmod_lt (n : Int) (h : n.tmod 65521 < 0) : n.tmod 65521 + 65521 = n % 65521 := (tmod_facts n).2.2.2.2.2 h
theorem tmod_ge (n : Int) (h : ¬ n.tmod 65521 < 0) : n.tmod 65521 = n % 65521 := (tmod_facts n).2.2.2.2.1 (by omega)

/-- A register as the program holds it. -/
def regV (r : Pair) : Value := .complex .f64 (floatOfInt .f64 r.1) (floatOfInt .f64 r.2)

set_option maxHeartbeats 400000 in
theorem rest_any (b : Nat) (n : Int) (w : World) (h : FI b n) (hn : n.natAbs < 9007199254740992) :
    Calls Tryz.prog 281 #[.float .f64 b] w fun e w' => e = .returned (.float .f64 (floatOfInt .f64 (n % 65521))) ∧ w = w' := by
  have hv := fi_toInt .i64 h (by show -9223372036854775808 ≤ n; omega) (by show n ≤ 9223372036854775807; omega)
  have hop : ∀ w, (convert 151 2 (.float .f64 b)).run Tryz.prog w = .ok (.int .i64 n) w := fun w => run_convert_float_int w 151 2 .f64 .i64 b n (by rw [Tryz.underlying151]; rfl) Tryz.underlying2 hv
  have ht := tmod_facts n
  have h1 := ht.2.1
  have h2 := ht.2.2.1
  clear hv ht
  by_cases hneg : n.tmod 65521 < 0
  · have he := tmod_lt n hneg
    go_enter Tryz.func281, Tryz.ntmps281
    go_wp2_with (simp only [hop])
    go_ret
    exact ⟨rfl, rfl⟩
  · have he := tmod_ge n hneg
    go_enter Tryz.func281, Tryz.ntmps281
    go_wp2_with (simp only [hop])
    go_ret
    exact ⟨rfl, rfl⟩

set_option maxHeartbeats 400000 in
theorem reduced_any (x y : Nat) (a b : Int) (w : World) (hx : FI x a) (hy : FI y b) (ha : a.natAbs < 9007199254740992) (hb : b.natAbs < 9007199254740992) :
    Calls Tryz.prog 265 #[.complex .f64 x y] w fun e w' => e = .returned (regV (red (a, b))) ∧ w = w' := by
  go_enter Tryz.func265, Tryz.ntmps265
  go_wp2_with (go_at_call 281; refine (rest_any _ _ _ (by assumption) (by assumption)).mono ?_; rintro e w' ⟨rfl, rfl⟩)
  go_ret
  exact ⟨rfl, rfl⟩

theorem fi_fst {r : Pair} (h : Red r) : FI (floatOfInt .f64 r.1) r.1 := fi_ofInt _ (by unfold Red at h; omega)
theorem fi_snd {r : Pair} (h : Red r) : FI (floatOfInt .f64 r.2) r.2 := fi_ofInt _ (by unfold Red at h; omega)

set_option maxHeartbeats 400000 in
theorem sum_any (r : Pair) (w : World) (h : Red r) :
    Calls Tryz.prog 231 #[regV r] w fun e w' => e = .returned (.int .u32 (sm r)) ∧ w = w' := by
  have hR := h
  unfold Red at hR
  obtain ⟨k0, k1, k2, k3⟩ := hR
  have c1 : ∀ w, (convert 151 152 (.float .f64 (floatOfInt .f64 r.1))).run Tryz.prog w = .ok (.int .u32 r.1) w := fun w =>
    run_convert_float_int w 151 152 .f64 .u32 _ r.1 (by rw [Tryz.underlying151]; rfl) Tryz.underlying152 (fi_toInt .u32 (fi_fst h) (by show 0 ≤ r.1; omega) (by show r.1 ≤ 4294967295; omega))
  have c2 : ∀ w, (convert 151 152 (.float .f64 (floatOfInt .f64 r.2))).run Tryz.prog w = .ok (.int .u32 r.2) w := fun w =>
    run_convert_float_int w 151 152 .f64 .u32 _ r.2 (by rw [Tryz.underlying151]; rfl) Tryz.underlying152 (fi_toInt .u32 (fi_snd h) (by show 0 ≤ r.2; omega) (by show r.2 ≤ 4294967295; omega))
  clear h
  unfold regV
  go_enter Tryz.func231, Tryz.ntmps231
  go_wp2_with (simp only [c1, c2])
  go_ret
  exact ⟨rfl, rfl⟩

/-- A step of the register, as the program takes it. -/
theorem step_ops (R : Pair) (hR : Red R) (x : Int) (h0 : 0 ≤ x) (h1 : x ≤ 255) :
    ∃ re im re2 im2 : Nat, (∀ t w, (binOp .mul t (.complex .f64 4611686018427387904 4607182418800017408) (.complex .f64 (floatOfInt .f64 R.1) (floatOfInt .f64 R.2))).run Tryz.prog w = .ok (.complex .f64 re im) w) ∧
      (∀ t w, (binOp .add t (.complex .f64 re im) (.complex .f64 (floatOfInt .f64 x) 0)).run Tryz.prog w = .ok (.complex .f64 re2 im2) w) ∧
      FI re2 (stepU R x).1 ∧ FI im2 (stepU R x).2 ∧ (stepU R x).1.natAbs < 9007199254740992 ∧ (stepU R x).2.natAbs < 9007199254740992 := by
  have hR' := hR
  unfold Red at hR'
  obtain ⟨re, im, e1, f1, f2⟩ := ci_mul fi_two fi_one (fi_fst hR) (fi_snd hR) (by omega) (by omega) (by omega) (by omega)
  have fx := fi_ofInt x (by omega)
  obtain ⟨re2, im2, e2, f3, f4⟩ := ci_add f1 f2 fx fi_zero (by omega) (by omega)
  have s1 : 2 * R.1 - 1 * R.2 + x = (stepU R x).1 := by unfold stepU; simp only; omega
  have s2 : 2 * R.2 + 1 * R.1 + 0 = (stepU R x).2 := by unfold stepU; simp only; omega
  rw [s1] at f3
  rw [s2] at f4
  refine ⟨re, im, re2, im2, fun t w => run_complex_mul w t _ _ _ _ _ _ e1, fun t w => run_complex_sum w .add (Or.inl rfl) t .f64 _ _ _ _ _ _ e2, f3, f4, ?_, ?_⟩
  · rw [← s1]; omega
  · rw [← s2]; omega

set_option maxHeartbeats 400000 in
theorem behind_any (r : Pair) (a : Option Addr) (len cap : Nat) (zs : List Int) (w : World) (hr : Red r) (hb : Bts w a len zs) :
    Calls Tryz.prog 230 #[regV r, .slice a len cap] w fun e w' => e = .returned (regV (bhd zs r)) ∧ w = w' := by
  obtain ⟨hl, hm, hz, hc⟩ := hb
  rcases hc with rfl | ⟨b, off, rfl, hc⟩
  · have : zs = [] := List.length_eq_zero_iff.1 hl
    subst this
    unfold regV
    go_enter Tryz.func230, Tryz.ntmps230
    go_wp2
    go_loop [0, 9] (fun rv i => i = .int .i64 0 ∧ rv = .complex .f64 (floatOfInt .f64 r.1) (floatOfInt .f64 r.2)) (fun _ i => 0 - (intOf i).toNat)
    case atStart => exact ⟨rfl, rfl⟩
    case round =>
      obtain ⟨rfl, rfl⟩ := hrel
      go_wp2
      go_ret
      exact ⟨rfl, rfl⟩
  · have HL : Hid (zs.length = len) := Lib.hid hl
    clear hl
    unfold regV
    go_enter Tryz.func230, Tryz.ntmps230
    go_wp2
    go_loop [0, 9] (fun rv i => ∃ (k : Nat) (R : Pair), k ≤ len ∧ i = .int .i64 k ∧ rv = .complex .f64 (floatOfInt .f64 R.1) (floatOfInt .f64 R.2) ∧ R = bhd (zs.take k) r) (fun _ i => len - (intOf i).toNat)
    case atStart => exact ⟨0, r, Nat.zero_le _, rfl, rfl, rfl⟩
    case round =>
      obtain ⟨k, R, hk, rfl, rfl, hR⟩ := hrel
      have hRed : Red R := by rw [hR]; exact bhd_Red _ hr
      have HR : Hid (R = bhd (zs.take k) r) := Lib.hid hR
      clear hR
      by_cases hlt : k < len
      · have hcell := hc k hlt
        have hx := hz _ (getD_mem (l := zs) (k := k) (by rw [HL.out]; exact hlt))
        have HN : Hid (bhd (zs.take (k + 1)) r = red (stepU R (zs.getD k 0))) := Lib.hid (by rw [take_snoc zs k (by rw [HL.out]; exact hlt), bhd_snoc, HR.out])
        obtain ⟨x, HX⟩ : ∃ x, Hid (x = zs.getD k 0) := ⟨_, Lib.hid rfl⟩
        rw [← HX.out] at hcell hx HN
        obtain ⟨hx0, hx1⟩ := hx
        obtain ⟨re, im, re2, im2, o1, o2, f1, f2, b1, b2⟩ := step_ops R hRed x hx0 hx1
        clear hz hc
        go_wp2_with (first | (go_at_call 265; refine (reduced_any _ _ _ _ _ f1 f2 b1 b2).mono ?_; rintro e w' ⟨rfl, rfl⟩))
        go_round
        case rel => exact ⟨k + 1, red (stepU R x), by omega, by go_num, rfl, HN.out.symm⟩
        case measure => simp [intOf]; omega
      · have : k = len := by omega
        subst this
        go_wp2
        go_ret
        have e1 : zs.take k = zs := List.take_of_length_le (by rw [HL.out]; exact Nat.le_refl _)
        have e2 : R = bhd zs r := by rw [HR.out, e1]
        exact ⟨by rw [e2]; rfl, rfl⟩

theorem one_bits : (4607182418800017408 : Nat) = floatOfInt .f64 1 := by decide +kernel
theorem begin_regV : Value.complex .f64 4607182418800017408 0 = regV (1, 0) := by rw [one_bits]; rfl

set_option maxHeartbeats 400000 in
theorem Sum_any (a : Option Addr) (len cap : Nat) (zs : List Int) (w : World) (hb : Bts w a len zs) :
    Calls Tryz.prog 187 #[.slice a len cap] w fun e w' => e = .returned (.int .u32 (sumS zs)) ∧ w = w' := by
  have c2 := behind_any (1, 0) a len cap zs w one_Red hb
  have c3 := sum_any (bhd zs (1, 0)) w (bhd_Red zs one_Red)
  rw [← begin_regV] at c2
  clear hb
  go_enter Tryz.func187, Tryz.ntmps187
  go_wp2_with (first | (go_at_call 230; refine c2.mono ?_; rintro e w' ⟨rfl, rfl⟩) | (go_at_call 231; refine c3.mono ?_; rintro e w' ⟨rfl, rfl⟩))
  go_ret
  exact ⟨rfl, rfl⟩

end Go.Proofs.YthklefelkdhblaaGreatDoor


namespace Go.Proofs.YthklefelkdhblaaGreatDoor
open Go.RowKit

set_option maxHeartbeats 400000 in
theorem fSum_any (ao : Option Addr) (cap : Nat) (zs : List Int) (w : World) (hA : Arg w ao 64 cap zs) :
    Calls Tryz.prog 151 #[.slice ao 64 cap] w fun e w' => e = .returned (.string (str (leB (sumS (zs.take 60)) 4))) ∧ Below w.heap.size w w' := by
  obtain ⟨hB, _, hcap, _⟩ := hA
  obtain ⟨b, off, rfl, _⟩ := hB.2.2.2.resolve_left (by decide)
  have cS := Sum_any (some ⟨b, off, none⟩) 60 cap (zs.take 60) w (bts_take hB (by decide))
  have hSb := sumS_bounds (zs.take 60)
  have cB := fBytes_any 4 (sumS (zs.take 60)) w (by decide)
  rw [show ((4 : Nat) : Int) = 4 from rfl] at cB
  generalize sumS (zs.take 60) = S at *
  have i2 : (60 : Int) ≤ (cap : Int) := by omega
  clear hB
  go_enter Tryz.func151, Tryz.ntmps151
  go_wp2_with (first | (go_at_call 187; refine cS.mono ?_; rintro e w' ⟨rfl, rfl⟩) | (go_at_call 203; refine cB.mono ?_; rintro e w2 ⟨rfl, hb2⟩; have HB2 := Lib.hid hb2; clear hb2))
  go_ret
  exact ⟨rfl, HB2.out⟩

set_option maxHeartbeats 400000 in
theorem fSeal_any (ao : Option Addr) (len cap : Nat) (zs : List Int) (w : World) (hA : Arg w ao len cap zs) :
    Calls Tryz.prog 91 #[.slice ao len cap] w (Handed w.heap.size w (sealOut sumS zs) (sealErr len)) := by
  have hl := hA.1.1
  by_cases h64 : len = 64
  · subst h64
    have HE8 : Hid (sealOut sumS zs = lay zs 60 (bytesOf (str (leB (sumS (zs.take 60)) 4)))) := Lib.hid (by
      unfold sealOut
      rw [if_pos hl, sealOf_take hl, bytesOf_str (leB_bytes _ _), lay_eq _ _ _ (by rw [hl, leB_length]; decide), leB_length, List.drop_of_length_le (by rw [hl]; decide), List.append_nil])
    have cS := fSum_any ao cap zs w hA
    have HC : Hid (∀ w2, Below w.heap.size w w2 → Calls Tryz.prog 150 #[.slice ao 64 cap, .int .i64 60, .string (str (leB (sumS (zs.take 60)) 4))] w2 (Gives w2.heap.size w2 (lay zs 60 (bytesOf (str (leB (sumS (zs.take 60)) 4)))))) :=
      Lib.hid (fun w2 hb => fWith_any ao cap zs 60 _ w2 (hA.1.later hb) (by rw [str_size, leB_length]; decide) (by decide))
    clear hA hl
    rw [show sealErr 64 = 0 from rfl]
    go_enter Tryz.func91, Tryz.ntmps91
    go_wp2_with (first | (go_at_call 151; refine cS.mono ?_; rintro e w2 ⟨rfl, hb2⟩; have HB2 := Lib.hid hb2; clear hb2) | (go_at_call 150; refine (HC.out _ HB2.out).mono ?_; rintro e w3 ⟨v3, rfl, hf3, hb3⟩; have HF3 := Lib.hid hf3; have HB3 := Lib.hid hb3; clear hf3 hb3))
    go_ret2
    exact ⟨v3, rfl, by rw [HE8.out]; exact HF3.out.mono HB2.out.size, HB2.out.trans (HB3.out.mono HB2.out.size)⟩
  · have HE8 : Hid (sealOut sumS zs = []) := Lib.hid (by unfold sealOut; rw [if_neg (by omega)])
    have hne : ((len : Int) != 64) = true := by simp; omega
    have HE7 : Hid (sealErr len = 2) := Lib.hid (by unfold sealErr; rw [if_neg h64])
    clear hA hl
    go_enter Tryz.func91, Tryz.ntmps91
    go_wp2
    go_ret2
    exact ⟨.slice none 0 0, by rw [HE7.out]; rfl, by rw [HE8.out]; exact Fresh.nil _ _, Below.refl _ _⟩

end Go.Proofs.YthklefelkdhblaaGreatDoor


namespace Go.Proofs.YthklefelkdhblaaGreatDoor

/-- A short text, sealed. -/
theorem seal_short {sum : List Int → Int} {l : List Int} (h : l.length ≤ 60) : sealOf sum l = (l ++ List.replicate (60 - l.length) 0) ++ leB (sum (l ++ List.replicate (60 - l.length) 0)) 4 := by
  have e : (l ++ List.replicate (60 - l.length) 0).take 60 = l ++ List.replicate (60 - l.length) 0 := List.take_of_length_le (by rw [List.length_append, List.length_replicate]; omega)
  unfold sealOf
  rw [e]

theorem seal_short_length {sum : List Int → Int} {l : List Int} (h : l.length ≤ 60) : (sealOf sum l).length = 64 := by
  rw [seal_short h, List.length_append, leB_length, List.length_append, List.length_replicate]
  omega

theorem leN_of_eq {zs ys : List Int} {p q : Nat} : ∀ (k : Nat), (∀ j, j < k → zs.getD (p + j) 0 = ys.getD (q + j) 0) → leN zs p k = leN ys q k
  | 0, _ => rfl
  | k + 1, h => by
    show leN zs p k + zs.getD (p + k) 0 * 256 ^ k = leN ys q k + ys.getD (q + k) 0 * 256 ^ k
    rw [leN_of_eq k (fun j hj => h j (by omega)), h k (by omega)]

/-- 64 bytes that are right ahead of the sum, sealed. -/
theorem sealed_of {zs l : List Int} (hl : l.length ≤ 60) (h64 : zs.length = 64) (h : ∀ k, k < 60 → zs.getD k 0 = l.getD k 0) : sealOf sumS zs = sealOf sumS l := by
  have e : zs.take 60 = l ++ List.replicate (60 - l.length) 0 := by
    refine List.ext_getElem (by rw [List.length_take, List.length_append, List.length_replicate]; omega) (fun k h1 h2 => ?_)
    rw [List.length_take] at h1
    have hk := h k (by omega)
    rw [List.getD_eq_getElem?_getD, List.getElem?_eq_getElem (by omega), Option.getD_some] at hk
    rw [List.getElem_take, hk]
    by_cases hkl : k < l.length
    · rw [List.getElem_append_left hkl]
      simp [List.getD, hkl]
    · rw [List.getElem_append_right (by omega), List.getElem_replicate]
      simp [List.getD, List.getElem?_eq_none (show l.length ≤ k by omega)]
  rw [sealOf_take h64, seal_short hl, e]

end Go.Proofs.YthklefelkdhblaaGreatDoor


namespace Go.Proofs.YthklefelkdhblaaGreatDoor
open Go.RowKit

def dryd : List Int := [68, 82, 89, 68]
def headT : List Int := [72, 69, 65, 68]

/-- What is told of a volume. -/
structure PSup where
  a : Int
  b : Int
  c : Int
  d : Int
  e : Int
  deriving DecidableEq

structure PHead where
  a : Int
  b : Int
  deriving DecidableEq

def PSup.sound (s : PSup) : Bool := decide (64 ≤ s.a ∧ s.a ≤ 480 ∧ 1 ≤ s.b ∧ s.b ≤ 3 ∧ 0 ≤ s.c ∧ s.c ≤ 3 ∧ 0 ≤ s.d ∧ s.d ≤ 32 ∧ 0 ≤ s.e ∧ s.e ≤ 480)
def PHead.sound (h : PHead) : Bool := decide (0 ≤ h.a ∧ h.a ≤ 39 ∧ 1 ≤ h.b ∧ h.b ≤ 1073741824)
def supB (s : PSup) : List Int := dryd ++ leB s.a 2 ++ leB s.b 1 ++ leB s.c 1 ++ leB s.d 2 ++ leB s.e 2
def headB (h : PHead) : List Int := headT ++ leB h.a 4 ++ leB h.b 4
def supBlock (s : PSup) : List Int := sealOf sumS (supB s)
def headBlock (h : PHead) : List Int := sealOf sumS (headB h)
def supErr (s : PSup) : Int := if s.sound = true then 0 else 2
def supOut (s : PSup) : List Int := if s.sound = true then supBlock s else []
def headErr (h : PHead) : Int := if h.sound = true then 0 else 2
def headOut (h : PHead) : List Int := if h.sound = true then headBlock h else []
def noSup : PSup := ⟨0, 0, 0, 0, 0⟩
/-- What a block is as a Super, its soundness apart. -/
def readSup (zs : List Int) : PSup := ⟨leN zs 4 2, zs.getD 6 0, zs.getD 7 0, zs.getD 8 0, leN zs 10 2⟩
def readHead (zs : List Int) : PHead := ⟨zs.getD 4 0, leN zs 8 4⟩
def isSup (zs : List Int) : Bool := decide (zs.length = 64) && ((readSup zs).sound && decide (supBlock (readSup zs) = zs))
def isHead (zs : List Int) : Bool := decide (zs.length = 64) && ((readHead zs).sound && decide (headBlock (readHead zs) = zs))
def getSup (zs : List Int) : PSup := if isSup zs = true then readSup zs else noSup
def getSupErr (zs : List Int) : Int := if isSup zs = true then 0 else 2
def PSup.val (s : PSup) : Value := .agg #[.int .i64 s.a, .int .i64 s.b, .int .i64 s.c, .int .i64 s.d, .int .i64 s.e]
def PHead.val (h : PHead) : Value := .agg #[.int .i64 h.a, .int .i64 h.b]
def i64w (x : Int) : Prop := -9223372036854775808 ≤ x ∧ x ≤ 9223372036854775807
def PSup.in64 (s : PSup) : Prop := i64w s.a ∧ i64w s.b ∧ i64w s.c ∧ i64w s.d ∧ i64w s.e
def PHead.in64 (h : PHead) : Prop := i64w h.a ∧ i64w h.b

/-! ### Plain facts -/

theorem supB_length (s : PSup) : (supB s).length = 12 := by
  unfold supB
  simp only [List.length_append, leB_length]
  rfl
theorem headB_length (h : PHead) : (headB h).length = 12 := by
  unfold headB
  simp only [List.length_append, leB_length]
  rfl
end Go.Proofs.YthklefelkdhblaaGreatDoor


namespace Go.Proofs.YthklefelkdhblaaGreatDoor
open Go.RowKit

/-! ### What calls answer of such blocks -/

theorem sup_of_sealed {zs : List Int} (s : PSup) (h64 : zs.length = 64) (h : ∀ k, k < 60 → zs.getD k 0 = (supB s).getD k 0) : sealOf sumS zs = supBlock s :=
  sealed_of (by rw [supB_length]; decide) h64 h
theorem head_of_sealed {zs : List Int} (s : PHead) (h64 : zs.length = 64) (h : ∀ k, k < 60 → zs.getD k 0 = (headB s).getD k 0) : sealOf sumS zs = headBlock s :=
  sealed_of (by rw [headB_length]; decide) h64 h

end Go.Proofs.YthklefelkdhblaaGreatDoor


namespace Go.Proofs.YthklefelkdhblaaGreatDoor

theorem getD_put (zs : List Int) (p : Nat) (n : Int) (k : Nat) (h : p + k ≤ zs.length) (i : Nat) :
    (putK zs p n k).1.getD i 0 = if p ≤ i ∧ i < p + k then (putK [] 0 n (i - p)).2 % 256 else zs.getD i 0 := by
  induction k with
  | zero => rw [if_neg (by omega)]; rfl
  | succ k ih =>
    have ih := ih (by omega)
    show ((putK zs p n k).1.set (p + k) ((putK zs p n k).2 % 256)).getD i 0 = _
    rw [getD_set _ _ _ _ (by rw [putK_length]; omega)]
    by_cases h1 : i = p + k
    · subst h1
      rw [if_pos rfl, if_pos (by omega), putK_rest zs [] p 0 n k]
      have e : p + k - p = k := by omega
      rw [e]
    · rw [if_neg h1, ih]
      by_cases h2 : p ≤ i ∧ i < p + k
      · rw [if_pos h2, if_pos (by omega)]
      · rw [if_neg h2, if_neg (by omega)]

theorem setErr_ok {len : Nat} {p size n : Int} (h : setErr len p size n = 0) : fErr len p size = 0 ∧ 0 ≤ n ∧ (putK [] 0 n size.toNat).2 = 0 := by
  unfold setErr at h
  by_cases h1 : fErr len p size = 0
  · rw [if_neg (by simp [h1])] at h
    by_cases h2 : n < 0 ∨ 0 < (putK [] 0 n size.toNat).2
    · rw [if_pos h2] at h; exact absurd h (by decide)
    · have h3 : 0 ≤ n := by omega
      have h4 := (putK_nonneg [] 0 h3 size.toNat).1
      exact ⟨h1, h3, by omega⟩
  · rw [if_pos h1] at h; exact absurd h h1

theorem setOut_length {zs : List Int} {p size n : Int} (h : setErr zs.length p size n = 0) : (setOut zs p size n).length = 64 := by
  rw [setOut_ok h, putK_length]
  exact (fErr_ok (setErr_ok h).1).1

theorem set_other {zs : List Int} {p size n : Int} (h : setErr zs.length p size n = 0) {i : Nat} (hi : ¬ (p ≤ i ∧ (i : Int) < p + size)) : (setOut zs p size n).getD i 0 = zs.getD i 0 := by
  have ho := fErr_ok (setErr_ok h).1
  rw [setOut_ok h, getD_put _ _ _ _ (by omega), if_neg (by omega)]

end Go.Proofs.YthklefelkdhblaaGreatDoor


namespace Go.Proofs.YthklefelkdhblaaGreatDoor
open Go.RowKit

theorem putK_over (zs : List Int) (p : Nat) (n : Int) : ∀ k : Nat, (putK zs p n k).2 = n / 256 ^ k
  | 0 => by
    show n = n / 1
    omega
  | k + 1 => by
    show (putK zs p n k).2 / 256 = _
    rw [putK_over zs p n k, Int.pow_succ, ← Int.ediv_ediv_of_nonneg (by have := pow256_pos k; omega)]

/-- A number that fits is put without an error. -/
theorem setErr_none {p size : Nat} {n : Int} (h1 : 1 ≤ size) (h2 : size ≤ 4) (h3 : p + size ≤ 60) (h4 : 0 ≤ n) (h5 : n < 256 ^ size) : setErr 64 p size n = 0 := by
  have hf : fErr 64 p size = 0 := by
    unfold fErr
    rw [if_pos rfl, if_neg (by omega)]
  unfold setErr
  rw [if_neg (by simp [hf]), if_neg]
  rintro (h | h)
  · omega
  · rw [putK_over, Int.toNat_natCast, Int.ediv_eq_zero_of_lt h4 h5] at h
    omega

theorem put_at {zs : List Int} {p size : Nat} {n : Int} (h : setErr zs.length p size n = 0) {i : Nat} (hi : p ≤ i ∧ i < p + size) : (setOut zs p size n).getD i 0 = n / 256 ^ (i - p) % 256 := by
  have ho := fErr_ok (setErr_ok h).1
  rw [setOut_ok h, Int.toNat_natCast, Int.toNat_natCast, getD_put _ _ _ _ (by omega), if_pos hi, putK_over]

theorem put_off {zs : List Int} {p size : Nat} {n : Int} (h : setErr zs.length p size n = 0) {i : Nat} (hi : ¬ (p ≤ i ∧ i < p + size)) : (setOut zs p size n).getD i 0 = zs.getD i 0 := set_other h (by omega)

def zeroes64 : List Int := List.replicate 64 0
/-- A text of four bytes at the beginning of nothing but 0. -/
def begun4 (t : List Int) : List Int := textOut zeroes64 0 t
theorem begun_dryd : begun4 dryd = dryd ++ List.replicate 60 0 := by decide
theorem begun_head : begun4 headT = headT ++ List.replicate 60 0 := by decide

/-- What Set by Set comes of a Super. -/
def madeSup (s : PSup) : List Int := setOut (setOut (setOut (setOut (setOut (begun4 dryd) (4 : Nat) (2 : Nat) s.a) (6 : Nat) (1 : Nat) s.b) (7 : Nat) (1 : Nat) s.c) (8 : Nat) (1 : Nat) s.d) (10 : Nat) (2 : Nat) s.e
def madeHead (s : PHead) : List Int := setOut (setOut (begun4 headT) (4 : Nat) (1 : Nat) s.a) (8 : Nat) (4 : Nat) s.b

theorem made_sup {s : PSup} (h : s.sound = true) : (madeSup s).length = 64 ∧ sealOf sumS (madeSup s) = supBlock s := by
  obtain ⟨a, b, c, d, e⟩ := s
  have h' : 64 ≤ a ∧ a ≤ 480 ∧ 1 ≤ b ∧ b ≤ 3 ∧ 0 ≤ c ∧ c ≤ 3 ∧ 0 ≤ d ∧ d ≤ 32 ∧ 0 ≤ e ∧ e ≤ 480 := of_decide_eq_true h
  have l0 : (begun4 dryd).length = 64 := by decide
  have p2 : (256 : Int) ^ 2 = 65536 := by decide
  have p1 : (256 : Int) ^ 1 = 256 := by decide
  have p0 : (256 : Int) ^ 0 = 1 := by decide
  have e1 : setErr (begun4 dryd).length (4 : Nat) (2 : Nat) a = 0 := by rw [l0]; exact setErr_none (by decide) (by decide) (by decide) (by omega) (by omega)
  have l1 := setOut_length e1
  have e2 : setErr (setOut (begun4 dryd) (4 : Nat) (2 : Nat) a).length (6 : Nat) (1 : Nat) b = 0 := by rw [l1]; exact setErr_none (by decide) (by decide) (by decide) (by omega) (by omega)
  have l2 := setOut_length e2
  have e3 : setErr (setOut (setOut (begun4 dryd) (4 : Nat) (2 : Nat) a) (6 : Nat) (1 : Nat) b).length (7 : Nat) (1 : Nat) c = 0 := by rw [l2]; exact setErr_none (by decide) (by decide) (by decide) (by omega) (by omega)
  have l3 := setOut_length e3
  have e4 : setErr (setOut (setOut (setOut (begun4 dryd) (4 : Nat) (2 : Nat) a) (6 : Nat) (1 : Nat) b) (7 : Nat) (1 : Nat) c).length (8 : Nat) (1 : Nat) d = 0 := by rw [l3]; exact setErr_none (by decide) (by decide) (by decide) (by omega) (by omega)
  have l4 := setOut_length e4
  have e5 : setErr (setOut (setOut (setOut (setOut (begun4 dryd) (4 : Nat) (2 : Nat) a) (6 : Nat) (1 : Nat) b) (7 : Nat) (1 : Nat) c) (8 : Nat) (1 : Nat) d).length (10 : Nat) (2 : Nat) e = 0 := by rw [l4]; exact setErr_none (by decide) (by decide) (by decide) (by omega) (by omega)
  refine ⟨setOut_length e5, sup_of_sealed _ (setOut_length e5) (fun k hk => ?_)⟩
  show (setOut (setOut (setOut (setOut (setOut (begun4 dryd) (4 : Nat) (2 : Nat) a) (6 : Nat) (1 : Nat) b) (7 : Nat) (1 : Nat) c) (8 : Nat) (1 : Nat) d) (10 : Nat) (2 : Nat) e).getD k 0 = _
  by_cases k12 : 12 ≤ k
  · rw [put_off e5 (by omega), put_off e4 (by omega), put_off e3 (by omega), put_off e2 (by omega), put_off e1 (by omega), begun_dryd]
    have hs : (supB ⟨a, b, c, d, e⟩).getD k 0 = 0 := by
      rw [List.getD_eq_getElem?_getD, List.getElem?_eq_none (by rw [supB_length]; exact k12), Option.getD_none]
    rw [hs, List.getD_eq_getElem?_getD, List.getElem?_append_right (show dryd.length ≤ k by show 4 ≤ k; omega)]
    rw [List.getElem?_replicate]
    split
    · rfl
    · rfl
  · by_cases k4 : k < 4
    · rw [put_off e5 (by omega), put_off e4 (by omega), put_off e3 (by omega), put_off e2 (by omega), put_off e1 (by omega), begun_dryd]
      obtain rfl | rfl | rfl | rfl : k = 0 ∨ k = 1 ∨ k = 2 ∨ k = 3 := by omega
      all_goals rfl
    · by_cases k6 : k < 6
      · rw [put_off e5 (by omega), put_off e4 (by omega), put_off e3 (by omega), put_off e2 (by omega), put_at e1 (by omega)]
        obtain rfl | rfl : k = 4 ∨ k = 5 := by omega
        all_goals rfl
      · by_cases k7 : k = 6
        · subst k7
          rw [put_off e5 (by omega), put_off e4 (by omega), put_off e3 (by omega), put_at e2 (by omega)]
          rfl
        · by_cases k8 : k = 7
          · subst k8
            rw [put_off e5 (by omega), put_off e4 (by omega), put_at e3 (by omega)]
            rfl
          · by_cases k9 : k = 8
            · subst k9
              rw [put_off e5 (by omega), put_at e4 (by omega)]
              rfl
            · by_cases k10 : k = 9
              · subst k10
                rw [put_off e5 (by omega), put_off e4 (by omega), put_off e3 (by omega), put_off e2 (by omega), put_off e1 (by omega), begun_dryd]
                show (0 : Int) = d / 256 ^ 1 % 256
                omega
              · rw [put_at e5 (by omega)]
                obtain rfl | rfl : k = 10 ∨ k = 11 := by omega
                all_goals rfl

theorem made_head {s : PHead} (h : s.sound = true) : (madeHead s).length = 64 ∧ sealOf sumS (madeHead s) = headBlock s := by
  obtain ⟨a, b⟩ := s
  have h' : 0 ≤ a ∧ a ≤ 39 ∧ 1 ≤ b ∧ b ≤ 1073741824 := of_decide_eq_true h
  have l0 : (begun4 headT).length = 64 := by decide
  have p4 : (256 : Int) ^ 4 = 4294967296 := by decide
  have p1 : (256 : Int) ^ 1 = 256 := by decide
  have e1 : setErr (begun4 headT).length (4 : Nat) (1 : Nat) a = 0 := by rw [l0]; exact setErr_none (by decide) (by decide) (by decide) (by omega) (by omega)
  have l1 := setOut_length e1
  have e2 : setErr (setOut (begun4 headT) (4 : Nat) (1 : Nat) a).length (8 : Nat) (4 : Nat) b = 0 := by rw [l1]; exact setErr_none (by decide) (by decide) (by decide) (by omega) (by omega)
  refine ⟨setOut_length e2, head_of_sealed _ (setOut_length e2) (fun k hk => ?_)⟩
  show (setOut (setOut (begun4 headT) (4 : Nat) (1 : Nat) a) (8 : Nat) (4 : Nat) b).getD k 0 = _
  by_cases k12 : 12 ≤ k
  · rw [put_off e2 (by omega), put_off e1 (by omega), begun_head]
    have hs : (headB ⟨a, b⟩).getD k 0 = 0 := by
      rw [List.getD_eq_getElem?_getD, List.getElem?_eq_none (by rw [headB_length]; exact k12), Option.getD_none]
    rw [hs, List.getD_eq_getElem?_getD, List.getElem?_append_right (show headT.length ≤ k by show 4 ≤ k; omega)]
    rw [List.getElem?_replicate]
    split
    · rfl
    · rfl
  · by_cases k4 : k < 4
    · rw [put_off e2 (by omega), put_off e1 (by omega), begun_head]
      obtain rfl | rfl | rfl | rfl : k = 0 ∨ k = 1 ∨ k = 2 ∨ k = 3 := by omega
      all_goals rfl
    · by_cases k5 : k = 4
      · subst k5
        rw [put_off e2 (by omega), put_at e1 (by omega)]
        rfl
      · by_cases k8 : k < 8
        · rw [put_off e2 (by omega), put_off e1 (by omega), begun_head]
          obtain rfl | rfl | rfl : k = 5 ∨ k = 6 ∨ k = 7 := by omega
          · show (0 : Int) = a / 256 ^ 1 % 256
            omega
          · show (0 : Int) = a / 256 ^ 2 % 256
            omega
          · show (0 : Int) = a / 256 ^ 3 % 256
            omega
        · rw [put_at e2 (by omega)]
          obtain rfl | rfl | rfl | rfl : k = 8 ∨ k = 9 ∨ k = 10 ∨ k = 11 := by omega
          all_goals rfl

end Go.Proofs.YthklefelkdhblaaGreatDoor


namespace Go.Proofs.YthklefelkdhblaaGreatDoor
open Go.RowKit

/-- The error of a place of so many bytes. -/
def placeErr (len : Nat) (p n : Int) : Int := if len = 64 then (if p < 0 ∨ 60 - p < n then 1 else 0) else 2

set_option maxHeartbeats 400000 in
theorem fPlace_any (ao : Option Addr) (len cap : Nat) (p n : Int) (w : World) (hl : len ≤ 140737488351232) (hp : -9223372036854775808 ≤ p ∧ p ≤ 9223372036854775807) :
    Calls Tryz.prog 201 #[.slice ao len cap, .int .i64 p, .int .i64 n] w fun e w' => e = .returned (.int .i64 (placeErr len p n)) ∧ w = w' := by
  unfold placeErr
  by_cases h0 : len = 64
  · subst h0
    rw [if_pos rfl]
    by_cases h1 : p < 0
    · rw [if_pos (Or.inl h1)]
      go_enter Tryz.func201, Tryz.ntmps201
      go_wp2
      go_ret
      exact ⟨rfl, rfl⟩
    · by_cases h2 : 60 - p < n
      · rw [if_pos (Or.inr h2)]
        go_enter Tryz.func201, Tryz.ntmps201
        go_wp2
        go_ret
        exact ⟨rfl, rfl⟩
      · rw [if_neg (by omega)]
        go_enter Tryz.func201, Tryz.ntmps201
        go_wp2
        go_ret
        exact ⟨rfl, rfl⟩
  · rw [if_neg h0]
    have hne : ((len : Int) != 64) = true := by simp; omega
    go_enter Tryz.func201, Tryz.ntmps201
    go_wp2
    go_ret
    exact ⟨rfl, rfl⟩

theorem fErr_place (len : Nat) (p n : Int) : fErr len p n = if placeErr len p n = 0 then (if n < 1 ∨ 4 < n then 1 else 0) else placeErr len p n := by
  unfold fErr placeErr
  by_cases hl : len = 64
  · rw [if_pos hl, if_pos hl]
    by_cases h2 : p < 0 ∨ 60 - p < n
    · rw [if_pos h2, if_neg (show ¬ (1 : Int) = 0 by decide)]
      by_cases h3 : n < 1 ∨ 4 < n ∨ p < 0 ∨ 60 < p ∨ 60 < p + n
      · rw [if_pos h3]
      · omega
    · rw [if_neg h2, if_pos rfl]
      by_cases h3 : n < 1 ∨ 4 < n
      · rw [if_pos h3, if_pos (by omega)]
      · rw [if_neg h3, if_neg (by omega)]
  · rw [if_neg hl, if_neg hl, if_neg (by decide)]

end Go.Proofs.YthklefelkdhblaaGreatDoor


namespace Go.Proofs.YthklefelkdhblaaGreatDoor
open Go.RowKit

set_option maxHeartbeats 400000 in
theorem fNumber_any (ao : Option Addr) (len cap : Nat) (p n : Int) (w : World) (hl : len ≤ 140737488351232) (hp : -9223372036854775808 ≤ p ∧ p ≤ 9223372036854775807) :
    Calls Tryz.prog 202 #[.slice ao len cap, .int .i64 p, .int .i64 n] w fun e w' => e = .returned (.int .i64 (fErr len p n)) ∧ w = w' := by
  have c := fPlace_any ao len cap p n w hl hp
  rw [fErr_place]
  clear hl hp
  by_cases hE : placeErr len p n = 0
  · rw [if_pos hE]
    rw [hE] at c
    clear hE
    by_cases h1 : n < 1
    · rw [if_pos (Or.inl h1)]
      go_enter Tryz.func202, Tryz.ntmps202
      go_wp2_with (go_at_call 201; refine c.mono ?_; rintro e w' ⟨rfl, rfl⟩)
      go_ret
      exact ⟨rfl, rfl⟩
    · by_cases h2 : 4 < n
      · rw [if_pos (Or.inr h2)]
        go_enter Tryz.func202, Tryz.ntmps202
        go_wp2_with (go_at_call 201; refine c.mono ?_; rintro e w' ⟨rfl, rfl⟩)
        go_ret
        exact ⟨rfl, rfl⟩
      · rw [if_neg (by omega)]
        go_enter Tryz.func202, Tryz.ntmps202
        go_wp2_with (go_at_call 201; refine c.mono ?_; rintro e w' ⟨rfl, rfl⟩)
        go_ret
        exact ⟨rfl, rfl⟩
  · rw [if_neg hE]
    obtain ⟨E, HE⟩ : ∃ E, Hid (placeErr len p n = E) := ⟨_, Lib.hid rfl⟩
    rw [HE.out] at hE c ⊢
    have hne : (E != 0) = true := by simp; exact hE
    clear hE
    go_enter Tryz.func202, Tryz.ntmps202
    go_wp2_with (go_at_call 201; refine c.mono ?_; rintro e w' ⟨rfl, rfl⟩)
    go_ret
    exact ⟨rfl, rfl⟩

end Go.Proofs.YthklefelkdhblaaGreatDoor


namespace Go.Proofs.YthklefelkdhblaaGreatDoor
open Go.RowKit

theorem putK_quot (zs : List Int) (p : Nat) (n : Int) (k : Nat) : (putK zs p n k).2 = n / 256 ^ k := by
  induction k with
  | zero => show n = n / 1; omega
  | succ k ih =>
    show (putK zs p n k).2 / 256 = _
    rw [ih, Int.pow_succ, ← Int.ediv_ediv_of_nonneg (by have := pow256_pos k; omega)]

theorem putK_lay (zs : List Int) (p : Nat) (n : Int) (k : Nat) : (putK zs p n k).1 = lay zs p (leB n k) := by
  induction k with
  | zero => rfl
  | succ k ih =>
    show (putK zs p n k).1.set (p + k) ((putK zs p n k).2 % 256) = lay zs p (leB n k ++ [n / 256 ^ k % 256])
    rw [lay_snoc, leB_length, ih, putK_quot]

set_option maxHeartbeats 400000 in
theorem fSet_any (ao : Option Addr) (len cap : Nat) (zs : List Int) (p size n : Int) (w : World) (hA : Arg w ao len cap zs) (hp : -9223372036854775808 ≤ p ∧ p ≤ 9223372036854775807) (hs : -9223372036854775808 ≤ size ∧ size ≤ 9223372036854775807) (hn : -9223372036854775808 ≤ n ∧ n ≤ 9223372036854775807) :
    Calls Tryz.prog 149 #[.slice ao len cap, .int .i64 p, .int .i64 size, .int .i64 n] w (Handed w.heap.size w (setOut zs p size n) (setErr len p size n)) := by
  obtain ⟨hB, _, _, hlen⟩ := hA
  have hl := hB.1
  have cK := fNumber_any ao len cap p size w hlen hp
  by_cases hE : fErr len p size = 0
  · have ho := fErr_ok hE
    have hlen : len = 64 := ho.1
    subst hlen
    obtain ⟨k, hk⟩ : ∃ k : Nat, size = k := ⟨size.toNat, by omega⟩
    obtain ⟨q, hq⟩ : ∃ q : Nat, p = q := ⟨p.toNat, by omega⟩
    subst hk
    subst hq
    have e1 : Int.toNat (k : Int) = k := by omega
    have e2 : Int.toNat (q : Int) = q := by omega
    have k1 : 1 ≤ k := by omega
    have k4 : k ≤ 4 := by omega
    have hq60 : q + k ≤ 60 := by omega
    have HO : Hid (setErr 64 q k n = if n < 0 ∨ 0 < n / 2 ^ (8 * k) then 7 else 0) := Lib.hid (by
      unfold setErr
      rw [hE, if_neg (by decide), e1, putK_quot, pow_two_bytes])
    have HO2 : Hid (setErr 64 q k n = 0 → setOut zs q k n = lay zs q (leB n k)) := Lib.hid (fun h => by
      rw [setOut_ok (by rw [hl]; exact h), e1, e2, putK_lay])
    have HO3 : Hid (setErr 64 q k n ≠ 0 → setOut zs q k n = []) := Lib.hid (fun h => setOut_err (by rw [hl]; exact h))
    rw [hE] at cK
    have HL := Lib.hid hl
    have HB := Lib.hid hB
    clear hE ho hB hl hp hs e1 e2 hlen
    by_cases hneg : n < 0
    · have HE7 : Hid (setErr 64 q k n = 7) := Lib.hid (by rw [HO.out, if_pos (Or.inl hneg)])
      have HE8 : Hid (setOut zs q k n = []) := Lib.hid (HO3.out (by rw [HE7.out]; decide))
      go_enter Tryz.func149, Tryz.ntmps149
      go_wp2_with (go_at_call 202; refine cK.mono ?_; rintro e w' ⟨rfl, rfl⟩)
      go_ret2
      exact ⟨.slice none 0 0, by rw [HE7.out]; rfl, by rw [HE8.out]; exact Fresh.nil _ _, Below.refl _ _⟩
    · have hn0 : 0 ≤ n := by omega
      by_cases hbig : 0 < n / 2 ^ (8 * k)
      · have HE7 : Hid (setErr 64 q k n = 7) := Lib.hid (by rw [HO.out, if_pos (Or.inr hbig)])
        have HE8 : Hid (setOut zs q k n = []) := Lib.hid (HO3.out (by rw [HE7.out]; decide))
        go_enter Tryz.func149, Tryz.ntmps149
        go_wp2_with (go_at_call 202; refine cK.mono ?_; rintro e w' ⟨rfl, rfl⟩)
        go_ret2
        exact ⟨.slice none 0 0, by rw [HE7.out]; rfl, by rw [HE8.out]; exact Fresh.nil _ _, Below.refl _ _⟩
      · have HE7 : Hid (setErr 64 q k n = 0) := Lib.hid (by rw [HO.out, if_neg (by omega)])
        have HE8 : Hid (setOut zs q k n = lay zs q (bytesOf (str (leB n k)))) := Lib.hid (by rw [HO2.out HE7.out, bytesOf_str (leB_bytes n k)])
        have cB := fBytes_any k n w k4
        have HC : Hid (∀ w2, Below w.heap.size w w2 → Calls Tryz.prog 150 #[.slice ao 64 cap, .int .i64 q, .string (str (leB n k))] w2 (Gives w2.heap.size w2 (lay zs q (bytesOf (str (leB n k)))))) :=
          Lib.hid (fun w2 hb => fWith_any ao cap zs q _ w2 (HB.out.later hb) (by rw [str_size, leB_length]; omega) (by omega))
        go_enter Tryz.func149, Tryz.ntmps149
        go_wp2_with (first | (go_at_call 202; refine cK.mono ?_; rintro e w' ⟨rfl, rfl⟩) | (go_at_call 203; refine cB.mono ?_; rintro e w2 ⟨rfl, hb2⟩; have HB2 := Lib.hid hb2; clear hb2) | (go_at_call 150; refine (HC.out _ HB2.out).mono ?_; rintro e w3 ⟨v3, rfl, hf3, hb3⟩; have HF3 := Lib.hid hf3; have HB3 := Lib.hid hb3; clear hf3 hb3))
        go_ret2
        exact ⟨v3, by rw [HE7.out]; rfl, by rw [HE8.out]; exact HF3.out.mono HB2.out.size, HB2.out.trans (HB3.out.mono HB2.out.size)⟩
  · have HE7 : Hid (setErr len p size n = fErr len p size) := Lib.hid (by unfold setErr; rw [if_pos hE])
    have HE8 : Hid (setOut zs p size n = []) := Lib.hid (setOut_err (by rw [hl, HE7.out]; exact hE))
    obtain ⟨E, HE⟩ : ∃ E, Hid (fErr len p size = E) := ⟨_, Lib.hid rfl⟩
    rw [HE.out] at hE cK HE7
    have hne : (E != 0) = true := by simp; exact hE
    clear hB hl hE hp hs hn hlen
    go_enter Tryz.func149, Tryz.ntmps149
    go_wp2_with (go_at_call 202; refine cK.mono ?_; rintro e w' ⟨rfl, rfl⟩)
    go_ret2
    exact ⟨.slice none 0 0, by rw [HE7.out]; rfl, by rw [HE8.out]; exact Fresh.nil _ _, Below.refl _ _⟩

end Go.Proofs.YthklefelkdhblaaGreatDoor


namespace Go.Proofs.YthklefelkdhblaaGreatDoor
open Go.RowKit

set_option maxHeartbeats 400000 in
theorem fGet_any (ao : Option Addr) (len cap : Nat) (zs : List Int) (p size : Int) (w : World) (hA : Arg w ao len cap zs) (hp : -9223372036854775808 ≤ p ∧ p ≤ 9223372036854775807) (hs : -9223372036854775808 ≤ size ∧ size ≤ 9223372036854775807) :
    Calls Tryz.prog 205 #[.slice ao len cap, .int .i64 p, .int .i64 size] w fun e w' => e = .returned (.tuple #[.int .i64 (getOut zs p size), .int .i64 (fErr len p size)]) ∧ w = w' := by
  obtain ⟨hB, _, _, hlen⟩ := hA
  have hl := hB.1
  have cK := fNumber_any ao len cap p size w hlen hp
  unfold getOut
  rw [hl]
  by_cases hE : fErr len p size = 0
  · have ho := fErr_ok hE
    have hlen : len = 64 := ho.1
    subst hlen
    obtain ⟨k, hk⟩ : ∃ k : Nat, size = k := ⟨size.toNat, by omega⟩
    obtain ⟨q, hq⟩ : ∃ q : Nat, p = q := ⟨p.toNat, by omega⟩
    subst hk
    subst hq
    rw [if_pos hE, hE]
    rw [hE] at cK
    have e1 : Int.toNat (q : Int) = q := by omega
    have e2 : Int.toNat (k : Int) = k := by omega
    rw [e1, e2]
    have k4 : k ≤ 4 := by omega
    have hq60 : q + k ≤ 60 := by omega
    obtain ⟨b, off, rfl, hc⟩ := hB.2.2.2.resolve_left (by decide)
    have hz := hB.2.2.1
    have HL := Lib.hid hl
    clear hB hl hE ho e1 e2 hp hs hlen
    go_enter Tryz.func205, Tryz.ntmps205
    go_wp2_with (go_at_call 202; refine cK.mono ?_; rintro e w' ⟨rfl, rfl⟩)
    go_loop [9, 19] (fun nv iv => ∃ j : Nat, j ≤ k ∧ iv = .int .i64 j ∧ nv = .int .i64 (leN zs q j)) (fun _ iv => k - (intOf iv).toNat)
    case atStart => exact ⟨0, Nat.zero_le _, rfl, rfl⟩
    case round =>
      obtain ⟨j, hj, rfl, rfl⟩ := hrel
      by_cases hlt : j < k
      · have hx := hz _ (getD_mem (l := zs) (k := q + j) (by rw [HL.out]; omega))
        have hb := leN_bounds hz q j (by rw [HL.out]; omega)
        have hb4 := leN_four hz q (j + 1) (by rw [HL.out]; omega) (by omega)
        have hcell := hc (q + j) (by omega)
        have HN : Hid (leN zs q (j + 1) = leN zs q j + zs.getD (q + j) 0 * 2 ^ (8 * j)) := Lib.hid (by rw [pow_two_bytes]; rfl)
        rw [HN.out] at hb4
        rw [← pow_two_bytes] at hb
        generalize leN zs q j = a at *
        obtain ⟨x, HX⟩ : ∃ x, Hid (x = zs.getD (q + j) 0) := ⟨_, Lib.hid rfl⟩
        rw [← HX.out] at hx hcell hb4 HN
        have hor := or_parts hb hx.1 (by omega)
        have hm : 0 ≤ x * 2 ^ (8 * j) := Int.mul_nonneg hx.1 (Int.le_of_lt (Int.pow_pos (by decide)))
        have hm2 : x * 2 ^ (8 * j) ≤ 4294967295 := by omega
        obtain ⟨hx0, hx1⟩ := hx
        obtain ⟨ha0, _⟩ := hb
        clear hz hc hb4
        have i1 : (0 : Int) ≤ (q : Int) + (j : Int) := by omega
        have i2 : (q : Int) + (j : Int) < (64 : Int) := by omega
        go_wp2
        go_round
        case rel => exact ⟨j + 1, by omega, by go_num, by rw [HN.out]⟩
        case measure => simp [intOf]; omega
      · have hjk : j = k := by omega
        subst hjk
        clear hz hc
        go_wp2
        go_ret2
        exact ⟨rfl, rfl⟩
  · rw [if_neg hE]
    obtain ⟨E, HE⟩ : ∃ E, Hid (fErr len p size = E) := ⟨_, Lib.hid rfl⟩
    rw [HE.out] at hE cK ⊢
    have hne : (E != 0) = true := by simp; exact hE
    clear hB hl hE hp hs hlen
    go_enter Tryz.func205, Tryz.ntmps205
    go_wp2_with (go_at_call 202; refine cK.mono ?_; rintro e w' ⟨rfl, rfl⟩)
    go_ret2
    exact ⟨rfl, rfl⟩

end Go.Proofs.YthklefelkdhblaaGreatDoor


namespace Go.Proofs.YthklefelkdhblaaGreatDoor
open Go.RowKit

theorem textErr_place (len : Nat) (p : Int) (n : Nat) : textErr len p n = placeErr len p n := by
  unfold textErr placeErr
  by_cases h : len = 64
  · rw [if_pos h, if_pos h]
    by_cases h1 : p < 0 ∨ 60 - p < n
    · rw [if_pos h1, if_pos (by omega)]
    · rw [if_neg h1, if_neg (by omega)]
  · rw [if_neg h, if_neg h]

set_option maxHeartbeats 400000 in
theorem fText_any (ao : Option Addr) (len cap : Nat) (zs : List Int) (p : Int) (s : ByteArray) (w : World) (hA : Arg w ao len cap zs) (hp : -9223372036854775808 ≤ p ∧ p ≤ 9223372036854775807) (hsz : s.size ≤ 9223372036854775807) :
    Calls Tryz.prog 148 #[.slice ao len cap, .int .i64 p, .string s] w (Handed w.heap.size w (textOut zs p (bytesOf s)) (textErr len p s.size)) := by
  obtain ⟨hB, _, _, hlen⟩ := hA
  have hl := hB.1
  have cK := fPlace_any ao len cap p s.size w hlen hp
  have HO : Hid (textOut zs p (bytesOf s) = if placeErr len p s.size = 0 then zs.take p.toNat ++ bytesOf s ++ zs.drop (p.toNat + (bytesOf s).length) else []) := Lib.hid (by
    unfold textOut
    rw [hl, bytesOf_length, textErr_place])
  rw [textErr_place]
  by_cases hE : placeErr len p s.size = 0
  · have ho : len = 64 ∧ 0 ≤ p ∧ p + s.size ≤ 60 := by
      unfold placeErr at hE
      by_cases h : len = 64
      · rw [if_pos h] at hE
        by_cases h1 : p < 0 ∨ 60 - p < s.size
        · rw [if_pos h1] at hE; exact absurd hE (by decide)
        · omega
      · rw [if_neg h] at hE; exact absurd hE (by decide)
    have hlen : len = 64 := ho.1
    subst hlen
    obtain ⟨q, hq⟩ : ∃ q : Nat, p = q := ⟨p.toNat, by omega⟩
    subst hq
    have e2 : Int.toNat (q : Int) = q := by omega
    have HE8 : Hid (textOut zs q (bytesOf s) = lay zs q (bytesOf s)) := Lib.hid (by
      rw [HO.out, if_pos hE, e2, lay_eq _ _ _ (by rw [hl, bytesOf_length]; omega)])
    rw [hE] at cK ⊢
    have cW := fWith_any ao cap zs q s w hB (by omega) (by omega)
    clear hB hl hE ho hlen e2 hp HO
    go_enter Tryz.func148, Tryz.ntmps148
    go_wp2_with (first | (go_at_call 201; refine cK.mono ?_; rintro e w' ⟨rfl, rfl⟩) | (go_at_call 150; refine cW.mono ?_; rintro e w3 ⟨v3, rfl, hf3, hb3⟩; have HF3 := Lib.hid hf3; have HB3 := Lib.hid hb3; clear hf3 hb3))
    go_ret2
    exact ⟨v3, rfl, by rw [HE8.out]; exact HF3.out, HB3.out⟩
  · have HE8 : Hid (textOut zs p (bytesOf s) = []) := Lib.hid (by rw [HO.out, if_neg hE])
    obtain ⟨E, HE⟩ : ∃ E, Hid (placeErr len p s.size = E) := ⟨_, Lib.hid rfl⟩
    rw [HE.out] at hE cK ⊢
    have hne : (E != 0) = true := by simp; exact hE
    clear hB hl hE hp hlen HO
    go_enter Tryz.func148, Tryz.ntmps148
    go_wp2_with (go_at_call 201; refine cK.mono ?_; rintro e w' ⟨rfl, rfl⟩)
    go_ret2
    exact ⟨.slice none 0 0, rfl, by rw [HE8.out]; exact Fresh.nil _ _, Below.refl _ _⟩

end Go.Proofs.YthklefelkdhblaaGreatDoor


namespace Go.Proofs.YthklefelkdhblaaGreatDoor
open Go.RowKit
set_option linter.unusedVariables false
set_option linter.unusedSimpArgs false

/-- Does a number lie between two others? -/
def inB (n lo hi : Int) : Bool := decide (lo ≤ n ∧ n ≤ hi)

theorem within_any (n lo hi : Int) (w : World) : Calls Tryz.prog 147 #[.int .i64 n, .int .i64 lo, .int .i64 hi] w fun e w' => e = .returned (.bool (inB n lo hi)) ∧ w = w' := by
  by_cases h1 : lo ≤ n
  · by_cases h2 : n ≤ hi
    · have HE : Hid (inB n lo hi = true) := Lib.hid (decide_eq_true ⟨h1, h2⟩)
      go_enter Tryz.func147, Tryz.ntmps147
      go_wp2
      go_ret
      exact ⟨by rw [HE.out]; rfl, rfl⟩
    · have HE : Hid (inB n lo hi = false) := Lib.hid (decide_eq_false (fun h => h2 h.2))
      go_enter Tryz.func147, Tryz.ntmps147
      go_wp2
      go_ret
      exact ⟨by rw [HE.out]; rfl, rfl⟩
  · have HE : Hid (inB n lo hi = false) := Lib.hid (decide_eq_false (fun h => h1 h.1))
    go_enter Tryz.func147, Tryz.ntmps147
    go_wp2
    go_ret
    exact ⟨by rw [HE.out]; rfl, rfl⟩

/-- Block gp holds places: where in a block a number lies, in how many bytes, and the cell of block g that it belongs to. -/
def PlIs (w : World) (gp g : Nat) (ps : List (Nat × Nat)) : Prop :=
  ∀ (j a b : Nat), ps[j]? = some (a, b) → w.cell? ⟨gp, j * 3, none⟩ = some (.int .i64 (a : Int)) ∧ w.cell? ⟨gp, j * 3 + 1, none⟩ = some (.int .i64 (b : Int)) ∧ w.cell? ⟨gp, j * 3 + 2, none⟩ = some (.pointer (some ⟨g, j, none⟩))

def supPs : List (Nat × Nat) := [(4, 2), (6, 1), (7, 1), (8, 1), (10, 2)]
def headPs : List (Nat × Nat) := [(4, 1), (8, 4)]
def smallPs (ps : List (Nat × Nat)) : Prop := ∀ (j a b : Nat), ps[j]? = some (a, b) → a ≤ 60 ∧ b ≤ 4
theorem small_sup : smallPs supPs := fun j a b h => by
  match j with
  | 0 | 1 | 2 | 3 | 4 => cases Option.some.inj h; omega
  | n + 5 => cases h
theorem small_head : smallPs headPs := fun j a b h => by
  match j with
  | 0 | 1 => cases Option.some.inj h; omega
  | n + 2 => cases h

theorem PlIs.later {w w' : World} {gp g : Nat} {ps : List (Nat × Nat)} (h : PlIs w gp g ps) (hb : Below w.heap.size w w') : PlIs w' gp g ps := fun j a b hj => by
  obtain ⟨h1, h2, h3⟩ := h j a b hj
  exact ⟨cell_later hb h1, cell_later hb h2, cell_later hb h3⟩

theorem new_cell (w : World) (cs : Array Value) (T : TypeId) (j : Nat) (v : Value) (h : cs[j]? = some v) : (w.alloc (.cells cs T)).drew.cell? ⟨w.heap.size, j, none⟩ = some v := by
  show (w.alloc (.cells cs T)).cell? ⟨w.heap.size, j, none⟩ = some v
  rw [World.cell?_alloc_new]; exact h

set_option maxRecDepth 100000 in
set_option maxHeartbeats 800000 in
theorem headPlaces_any (g : Nat) (w : World) : Calls Tryz.prog 90 #[.pointer (some ⟨g, 0, none⟩)] w fun e w' => e = .returned (.slice (some ⟨w.heap.size, 0, none⟩) (2 : Nat) (2 : Nat)) ∧ PlIs w' w.heap.size g headPs ∧ Below w.heap.size w w' := by
  go_enter Tryz.func90, Tryz.ntmps90
  go_wp2_with fail
  refine wp_region_still_tail 8 (by kernel_rfl) (by kernel_rfl) ?_
  simp only [List.take_succ_cons, List.take_zero, List.drop_succ_cons, List.drop_zero]
  try rw [drew_eq]
  iterate 8 still_step
  refine wpStill_nil ?_
  go_wp2_with fail
  go_ret
  refine ⟨rfl, fun j a b h => ?_, ((Below.refl _ _).alloc (Nat.le_refl _) _).drew⟩
  match j with
  | 0 | 1 => cases Option.some.inj h; exact ⟨new_cell w _ _ _ _ rfl, new_cell w _ _ _ _ rfl, new_cell w _ _ _ _ rfl⟩
  | n + 2 => cases h

set_option maxRecDepth 100000 in
set_option maxHeartbeats 800000 in
theorem superPlaces_any (g : Nat) (w : World) : Calls Tryz.prog 144 #[.pointer (some ⟨g, 0, none⟩)] w fun e w' => e = .returned (.slice (some ⟨w.heap.size, 0, none⟩) (5 : Nat) (5 : Nat)) ∧ PlIs w' w.heap.size g supPs ∧ Below w.heap.size w w' := by
  go_enter Tryz.func144, Tryz.ntmps144
  go_wp2_with fail
  refine wp_region_still_tail 20 (by kernel_rfl) (by kernel_rfl) ?_
  simp only [List.take_succ_cons, List.take_zero, List.drop_succ_cons, List.drop_zero]
  try rw [drew_eq]
  iterate 20 still_step
  refine wpStill_nil ?_
  go_wp2_with fail
  go_ret
  refine ⟨rfl, fun j a b h => ?_, ((Below.refl _ _).alloc (Nat.le_refl _) _).drew⟩
  match j with
  | 0 | 1 | 2 | 3 | 4 => cases Option.some.inj h; exact ⟨new_cell w _ _ _ _ rfl, new_cell w _ _ _ _ rfl, new_cell w _ _ _ _ rfl⟩
  | n + 5 => cases h

set_option maxHeartbeats 800000 in
theorem soundHead_any (h : PHead) (w : World) : Calls Tryz.prog 88 #[h.val] w fun e w' => e = .returned (.bool h.sound) ∧ Below w.heap.size w w' := by
  obtain ⟨a, b⟩ := h
  have hS : Hid (PHead.sound ⟨a, b⟩ = (inB a 0 39 && inB b 1 1073741824)) := Lib.hid (by unfold PHead.sound inB; rw [Bool.eq_iff_iff]; simp; omega)
  have hB : Hid (Below w.heap.size w (w.alloc (.cells #[.int .i64 a, .int .i64 b] 84))) := Lib.hid ((Below.refl _ _).alloc (Nat.le_refl _) _)
  unfold PHead.val
  cases h0 : inB a 0 39 with
  | false =>
    have H0 := Lib.hid h0
    clear h0
    go_enter Tryz.func88, Tryz.ntmps88
    go_wp2_with (go_at_call 147; refine (within_any _ _ _ _).mono ?_; rintro e w' ⟨rfl, rfl⟩; (try rw [H0.out]))
    go_ret
    exact ⟨by rw [hS.out, H0.out]; rfl, hB.out⟩
  | true =>
    cases h1 : inB b 1 1073741824 with
    | false =>
      have H0 := Lib.hid h0
      have H1 := Lib.hid h1
      clear h0 h1
      go_enter Tryz.func88, Tryz.ntmps88
      go_wp2_with (go_at_call 147; refine (within_any _ _ _ _).mono ?_; rintro e w' ⟨rfl, rfl⟩; (try rw [H0.out]); (try rw [H1.out]))
      go_ret
      exact ⟨by rw [hS.out, H0.out, H1.out]; rfl, hB.out⟩
    | true =>
      have H0 := Lib.hid h0
      have H1 := Lib.hid h1
      clear h0 h1
      go_enter Tryz.func88, Tryz.ntmps88
      go_wp2_with (go_at_call 147; refine (within_any _ _ _ _).mono ?_; rintro e w' ⟨rfl, rfl⟩; (try rw [H0.out]); (try rw [H1.out]))
      go_ret
      exact ⟨by rw [hS.out, H0.out, H1.out]; rfl, hB.out⟩

set_option maxHeartbeats 1600000 in
theorem soundSuper_any (h : PSup) (w : World) : Calls Tryz.prog 143 #[h.val] w fun e w' => e = .returned (.bool h.sound) ∧ Below w.heap.size w w' := by
  obtain ⟨a, b, c, d, e⟩ := h
  have hS : Hid (PSup.sound ⟨a, b, c, d, e⟩ = (inB a 64 480 && inB b 1 3 && inB c 0 3 && inB d 0 32 && inB e 0 480)) := Lib.hid (by unfold PSup.sound inB; rw [Bool.eq_iff_iff]; simp; omega)
  have hB : Hid (Below w.heap.size w (w.alloc (.cells #[.int .i64 a, .int .i64 b, .int .i64 c, .int .i64 d, .int .i64 e] 32))) := Lib.hid ((Below.refl _ _).alloc (Nat.le_refl _) _)
  unfold PSup.val
  cases h0 : inB a 64 480 with
  | false =>
    have H0 := Lib.hid h0
    clear h0
    go_enter Tryz.func143, Tryz.ntmps143
    go_wp2_with (go_at_call 147; refine (within_any _ _ _ _).mono ?_; rintro e w' ⟨rfl, rfl⟩; (try rw [H0.out]))
    go_ret
    exact ⟨by rw [hS.out, H0.out]; rfl, hB.out⟩
  | true =>
    cases h1 : inB b 1 3 with
    | false =>
      have H0 := Lib.hid h0
      have H1 := Lib.hid h1
      clear h0 h1
      go_enter Tryz.func143, Tryz.ntmps143
      go_wp2_with (go_at_call 147; refine (within_any _ _ _ _).mono ?_; rintro e w' ⟨rfl, rfl⟩; (try rw [H0.out]); (try rw [H1.out]))
      go_ret
      exact ⟨by rw [hS.out, H0.out, H1.out]; rfl, hB.out⟩
    | true =>
      cases h2 : inB c 0 3 with
      | false =>
        have H0 := Lib.hid h0
        have H1 := Lib.hid h1
        have H2 := Lib.hid h2
        clear h0 h1 h2
        go_enter Tryz.func143, Tryz.ntmps143
        go_wp2_with (go_at_call 147; refine (within_any _ _ _ _).mono ?_; rintro e w' ⟨rfl, rfl⟩; (try rw [H0.out]); (try rw [H1.out]); (try rw [H2.out]))
        go_ret
        exact ⟨by rw [hS.out, H0.out, H1.out, H2.out]; rfl, hB.out⟩
      | true =>
        cases h3 : inB d 0 32 with
        | false =>
          have H0 := Lib.hid h0
          have H1 := Lib.hid h1
          have H2 := Lib.hid h2
          have H3 := Lib.hid h3
          clear h0 h1 h2 h3
          go_enter Tryz.func143, Tryz.ntmps143
          go_wp2_with (go_at_call 147; refine (within_any _ _ _ _).mono ?_; rintro e w' ⟨rfl, rfl⟩; (try rw [H0.out]); (try rw [H1.out]); (try rw [H2.out]); (try rw [H3.out]))
          go_ret
          exact ⟨by rw [hS.out, H0.out, H1.out, H2.out, H3.out]; rfl, hB.out⟩
        | true =>
          cases h4 : inB e 0 480 with
          | false =>
            have H0 := Lib.hid h0
            have H1 := Lib.hid h1
            have H2 := Lib.hid h2
            have H3 := Lib.hid h3
            have H4 := Lib.hid h4
            clear h0 h1 h2 h3 h4
            go_enter Tryz.func143, Tryz.ntmps143
            go_wp2_with (go_at_call 147; refine (within_any _ _ _ _).mono ?_; rintro e w' ⟨rfl, rfl⟩; (try rw [H0.out]); (try rw [H1.out]); (try rw [H2.out]); (try rw [H3.out]); (try rw [H4.out]))
            go_ret
            exact ⟨by rw [hS.out, H0.out, H1.out, H2.out, H3.out, H4.out]; rfl, hB.out⟩
          | true =>
            have H0 := Lib.hid h0
            have H1 := Lib.hid h1
            have H2 := Lib.hid h2
            have H3 := Lib.hid h3
            have H4 := Lib.hid h4
            clear h0 h1 h2 h3 h4
            go_enter Tryz.func143, Tryz.ntmps143
            go_wp2_with (go_at_call 147; refine (within_any _ _ _ _).mono ?_; rintro e w' ⟨rfl, rfl⟩; (try rw [H0.out]); (try rw [H1.out]); (try rw [H2.out]); (try rw [H3.out]); (try rw [H4.out]))
            go_ret
            exact ⟨by rw [hS.out, H0.out, H1.out, H2.out, H3.out, H4.out]; rfl, hB.out⟩

end Go.Proofs.YthklefelkdhblaaGreatDoor

