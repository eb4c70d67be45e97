/-
  Proved here: what the document's own Fresh and page answer; what becomes of a list of writes that a call makes itself.
  The conditions stand at each theorem.
-/
import Derived.Test.YtdbkhhmadefccaaTrRefA
import Derived.Test.YtdbkhhmadefccaaTrPlanW
import Derived.Test.YtdbkhhmadefccaaTrZeros
import Derived.Test.YtdbkhhmadefccaaTrApp
import Derived.Test.YtdbkhhmadefccaaRef04Put
namespace Go.Proofs.Ytdbkhhmadefccaa
open Go.RowKit
set_option linter.unusedVariables false
set_option linter.unusedSimpArgs false

theorem page_pre {xs : List Int} {i : Nat} {x : Int} (h : xs[i]? = some x) : (xs.take (i + 1)).flatMap (fun p => leB p 2) = (xs.take i).flatMap (fun p => leB p 2) ++ leB x 2 := by
  rw [take_snocI h, List.flatMap_append]
  simp

theorem flat_bytes : ∀ (xs : List Int), ∀ z ∈ xs.flatMap (fun p => leB p 2), 0 ≤ z ∧ z ≤ 255
  | [], _, h => by cases h
  | x :: r, z, h => by
    rw [List.flatMap_cons, List.mem_append] at h
    rcases h with h | h
    · exact leB_bytes x 2 z h
    · exact flat_bytes r z h

set_option maxRecDepth 100000 in
set_option maxHeartbeats 3200000 in
theorem Rpage_any (ao : Option Addr) (len cap : Nat) (xs : List Int) (w : World) (hA : IArg w ao len cap xs) (hl : len ≤ 30) (hx : ∀ z ∈ xs, 0 ≤ z ∧ z ≤ 65535) : Calls Try.prog 28 #[.slice ao len cap] w (Gives w.heap.size w (pageB xs)) := by
  have HA := Lib.hid hA
  have HN := Lib.hid hA.len
  have HX := Lib.hid hx
  have HB0 : Hid (Below w.heap.size w (w.alloc (.cells #[] 5))) := Lib.hid ((Below.refl _ _).alloc (Nat.le_refl _) _)
  have HO0 : Hid ((w.alloc (.cells #[] 5)).ownsRow w.heap.size 5 1 (.slice (some ⟨w.heap.size, 0, none⟩) 0 0) 0 []) := Lib.hid (World.ownsRow_made (base := w.heap.size) (e := 5) (size := 1) w #[] 0 (Nat.le_refl _) (by decide) rfl)
  clear hA hx
  go_enter Try.func28, Try.ntmps28
  go_wp2_with fail
  go_loopw [3, 4] (fun bv iv wr => ∃ i : Nat, iv = .int .i64 (i : Int) ∧ i ≤ len ∧ Hid (wr.ownsRow w.heap.size 5 1 bv (2 * i) (((xs.take i).flatMap fun p => leB p 2).map (Value.int .u8))) ∧ Hid (Below w.heap.size w wr)) (fun _ iv _ => len - (intOf iv).toNat)
  case atStart => exact ⟨0, rfl, Nat.zero_le _, HO0, HB0⟩
  case round =>
    obtain ⟨i, rfl, hi, HO, HB⟩ := hrel
    clear HO0 HB0
    by_cases hlt : i < len
    · obtain ⟨b, off, x, rfl, hx, hcell, hI⟩ := (HA.out.later HB.out).at hlt
      have i1 : (i : Int) < (len : Int) := by omega
      have HP := Lib.hid (page_pre hx)
      obtain ⟨x0, x1⟩ := HX.out x (List.mem_of_getElem? hx)
      have cP := Put04_any w.heap.size _ (2 * i) _ x 2 wr HO.out HB.out.size x0 (by omega) (by decide) (by omega)
      rw [show ((2 : Nat) : Int) = 2 from rfl] at cP
      clear hx hI
      go_wp2_with (go_at_call 41; refine cP.mono ?_; rintro e w2 ⟨v2, rfl, ho2, hb2⟩; have HO2 := Lib.hid ho2; have HB2 := Lib.hid (HB.out.trans hb2); clear ho2 hb2)
      go_roundw
      case rel => exact ⟨i + 1, by go_num, by omega, Lib.hid (by rw [HP.out]; exact HO2.out), HB2⟩
      case measure => simp [intOf]; omega
    · obtain rfl : i = len := by omega
      have HE : Hid (xs.take i = xs) := Lib.hid (by rw [← HN.out, List.take_length])
      rw [HE.out] at HO
      have hF := fresh_of_owns HO.out (flat_bytes xs) (by omega)
      obtain ⟨va, vc, hv, hA2, _⟩ := hF
      have cS := Seal04_any va _ vc _ wr hA2
      have HV := Lib.hid hv
      clear hv hA2
      obtain ⟨m, hm⟩ : ∃ m, (xs.flatMap fun p => leB p 2).length = m := ⟨_, rfl⟩
      rw [hm] at cS HV
      have e : Gives wr.heap.size wr (sealOf sumS (xs.flatMap fun p => leB p 2)) = Gives wr.heap.size wr (pageB xs) := rfl
      rw [e] at cS
      rw [HV.out]
      clear hm e
      go_wp2_with (go_at_call 42; refine cS.mono ?_; rintro e w5 ⟨v5, rfl, hf5, hb5⟩; have F5 := Lib.hid hf5; have B5 := Lib.hid hb5; clear hf5 hb5)
      go_ret
      exact ⟨v5, rfl, F5.out.mono HB.out.size, HB.out.trans (B5.out.mono HB.out.size)⟩


theorem row_arg {W : World} {base n c : Nat} {v : Option Addr} {zs : List Int} (h : W.ownsRow base 3 1 (.slice v n c) n (ints zs)) (hz : ∀ z ∈ zs, I64 z) (hn : n ≤ 140737488351232) : IArg W v n c zs := by
  obtain ⟨ao, cap, h1, h2, _⟩ := fresh_of_ints h hz hn
  simp only [Value.slice.injEq] at h1
  obtain ⟨rfl, h3, rfl⟩ := h1
  rw [h3]
  exact h2

theorem allD_snoc {l : List Int} {i : Nat} {x : Int} (h : l[i]? = some x) : (l.take (i + 1)).all dataP = ((l.take i).all dataP && dataP x) := by
  rw [take_snocI h, List.all_append]
  simp

theorem all_take_false {l : List Int} {i n : Nat} (hi : i ≤ n) (h : (l.take i).all dataP = false) : (l.take n).all dataP = false := by
  rw [← Bool.not_eq_true] at h ⊢
  intro hn
  rw [List.all_eq_true] at h hn
  exact h (fun x hx => hn x (List.mem_of_mem_take (i := i) (by rw [List.take_take, Nat.min_eq_left hi]; exact hx)))

set_option maxRecDepth 100000 in
set_option maxHeartbeats 6400000 in
theorem RFresh_any (ao bo : Option Addr) (len cap m c : Nat) (fs zs : List Int) (n : Nat) (w : World) (hA : IArg w ao len cap fs) (hZ : IArg w bo m c zs) (hm : m ≤ 1000) (hn : n ≤ 10) : Calls Try.prog 26 #[.slice ao len cap, .int .i64 (n : Int), .slice bo m c] w fun e w' => e = .returned (.int .i64 (freshErr fs n zs)) ∧ Below w.heap.size w w' := by
  have HA := Lib.hid hA
  have HZ := Lib.hid hZ
  have HN := Lib.hid hA.len
  have hcap := hA.2.2.2
  have hbig := hA.big
  by_cases hlen : len < n
  · have HE : Hid (freshErr fs n zs = 6) := Lib.hid (by unfold freshErr; rw [if_pos (by have := HN.out; omega)])
    generalize freshErr fs n zs = E at *
    obtain rfl : E = 6 := HE.out
    have i1 : (len : Int) < (n : Int) := by omega
    clear hA hZ
    go_enter Try.func26, Try.ntmps26
    go_wp2_with fail
    go_ret
    exact ⟨rfl, Below.refl _ _⟩
  · have HE : Hid (freshErr fs n zs = if ((fs.take n).all dataP && apartL (zs ++ fs.take n)) = true then 0 else 1) := Lib.hid (by unfold freshErr; rw [if_neg (by have := HN.out; omega)])
    generalize freshErr fs n zs = E at *
    have i1 : ¬ (len : Int) < (n : Int) := by omega
    clear hA hZ
    go_enter Try.func26, Try.ntmps26
    go_wp2_with fail
    go_loopw [7] (fun iv wr => ∃ i : Nat, iv = .int .i64 (i : Int) ∧ i ≤ n ∧ Hid ((fs.take i).all dataP = true) ∧ Hid (w = wr)) (fun iv _ => n - (intOf iv).toNat)
    case atStart => exact ⟨0, rfl, Nat.zero_le _, Lib.hid (by simp), Lib.hid rfl⟩
    case round =>
      obtain ⟨i, rfl, hi, HP, HW⟩ := hrel
      have HWW := HW.out
      subst HWW
      by_cases hlt : i < n
      · obtain ⟨b, off, x, rfl, hx, hcell, hI⟩ := HA.out.at (i := i) (by omega)
        have j1 : (i : Int) < (n : Int) := by omega
        have j2 : (i : Int) < (len : Int) := by omega
        have HS := Lib.hid (allD_snoc hx)
        have cD := fun W => Data11_any x W
        clear hx hI
        cases hd : dataP x with
        | true =>
          rw [hd] at cD
          have HS2 : Hid ((fs.take (i + 1)).all dataP = true) := Lib.hid (by rw [HS.out, HP.out, hd]; rfl)
          clear hd
          go_wp2_with (go_at_call 38; refine (cD _).mono ?_; rintro e w2 ⟨rfl, rfl⟩)
          go_roundw
          case rel => exact ⟨i + 1, by go_num, by omega, HS2, by first | exact HW | exact Lib.hid trivial⟩
          case measure => simp [intOf]; omega
        | false =>
          rw [hd] at cD
          have HE2 : Hid (E = 1) := Lib.hid (by
            have h : (fs.take n).all dataP = false := all_take_false (i := i + 1) (by omega) (by rw [HS.out, hd, Bool.and_false])
            rw [HE.out, h]
            rfl)
          obtain rfl : E = 1 := HE2.out
          clear hd
          go_wp2_with (go_at_call 38; refine (cD _).mono ?_; rintro e w2 ⟨rfl, rfl⟩)
          go_ret
          exact ⟨rfl, Below.refl _ _⟩
      · obtain rfl : i = n := by omega
        have j3 : (i : Int) ≤ (cap : Int) := by omega
        have j4 : (0 : Int) ≤ (i : Int) := by omega
        have HF : Hid (IArg w ao i cap (fs.take i)) := Lib.hid (HA.out.takeAny (by omega))
        have HNC : Hid (i ≤ cap) := Lib.hid (by omega)
        have HM := Lib.hid hm
        go_wp2_with fail
        refine wp_region_any (by kernel_rfl) ?_
        try (change wpAny _ _ _ _ _ _ _ (World.drew _))
        refine wpAny_take (i := 1) (oi := ⟨some 24, _, _, _, _, _⟩) (v := .slice bo m c) rfl (by kernel_rfl) (by kernel_rfl) (by kernel_rfl) (fun _ _ _ h => h) (Or.inl ⟨by kernel_rfl, fun w => rfl⟩) ?_
        refine wpAny_take (i := 3) (oi := ⟨some 26, _, _, _, _, _⟩) (v := .slice ao len cap) rfl (by kernel_rfl) (by kernel_rfl) (by kernel_rfl) (fun _ _ _ h => h) (Or.inl ⟨by kernel_rfl, fun w => rfl⟩) ?_
        refine wpAny_take (i := 4) (oi := ⟨some 27, _, _, _, _, _⟩) (v := .int .i64 (i : Int)) rfl (by kernel_rfl) (by kernel_rfl) (by kernel_rfl) (fun _ _ _ h => h) (Or.inl ⟨by kernel_rfl, fun w => rfl⟩) ?_
        refine wpAny_take (i := 5) (oi := ⟨some 28, _, _, _, _, _⟩) (v := .slice ao i cap) rfl (by kernel_rfl) (by kernel_rfl) (by kernel_rfl) (fun _ _ _ h => h) (Or.inl ⟨by kernel_rfl, ?_⟩) ?_
        · intro w
          go_simp
        refine wpAny_ready (rs := [0]) (by kernel_rfl) (by simp) ?_
        refine AllReady.cons (o := ⟨some 23, _, _, _, _, _⟩) rfl (fun K hK => ?_) AllReady.nil
        go_simp
        refine hK _ _ ?_
        clear hK K
        refine wpAny_ready (rs := [2]) (by kernel_rfl) (by simp) ?_
        refine AllReady.cons (o := ⟨some 25, _, _, _, _, _⟩) rfl (fun K hK => ?_) AllReady.nil
        rw [if_pos (by rfl)]
        refine op_append_known (.tmp 23) (.tmp 24) 22 22 rfl (.slice (some ⟨w.heap.size, 0, none⟩) 0 0) (.slice bo m c) rfl rfl (fun v' w' => w'.ownsRow w.heap.size 3 1 v' (0 + m) ([] ++ ints zs) ∧ Below w.heap.size (w.drew.alloc (.cells #[] 3)) w')
          (run_append_nums _ _ w.heap.size 0 _ [] (World.ownsRow_made (base := w.heap.size) (e := 3) (size := 1) w.drew #[] 0 (Nat.le_refl _) (by decide) rfl) bo m c zs (HZ.out.later ((Below.refl _ _).drew.alloc (Nat.le_refl _) _)) (by have := HM.out; omega) (by rw [World.size_alloc]; exact Nat.le_succ _)) ?_
        rintro v2 w2 ⟨ho2, hb2⟩
        rw [Nat.zero_add, List.nil_append] at ho2
        have HO2 := Lib.hid ho2
        have HB2 := Lib.hid (((Below.refl w.heap.size w).drew.alloc (Nat.le_refl _) _).trans hb2)
        clear ho2 hb2
        refine hK _ _ ?_
        clear hK K
        refine wpAny_ready (rs := [6]) (by kernel_rfl) (by simp) ?_
        refine AllReady.cons (o := ⟨some 29, _, _, _, _, _⟩) rfl (fun K hK => ?_) AllReady.nil
        rw [if_pos (by rfl)]
        refine op_append_known (.tmp 25) (.tmp 28) 22 22 rfl v2 (.slice ao i cap) rfl rfl (fun v' w' => w'.ownsRow w.heap.size 3 1 v' (m + i) (ints zs ++ ints (fs.take i)) ∧ Below w.heap.size w2 w')
          (run_append_nums _ _ w.heap.size m v2 (ints zs) HO2.out ao i cap (fs.take i) (HF.out.later HB2.out) (by have := HM.out; omega) HB2.out.size) ?_
        rintro v3 w3 ⟨ho3, hb3⟩
        rw [← ints_append] at ho3
        obtain ⟨a3, c3, rfl⟩ := owns_shape_r ho3
        have HA3 : Hid (IArg w3 a3 (m + i) c3 (zs ++ fs.take i)) := Lib.hid (row_arg ho3 (fun z hz => by
          rcases List.mem_append.1 hz with h | h
          · exact HZ.out.2.1 z h
          · exact HF.out.2.1 z h) (by have := HM.out; omega))
        have HB3 := Lib.hid (HB2.out.trans hb3)
        clear ho3 hb3
        refine hK _ _ ?_
        clear hK K
        have cR := RApart_any a3 (m + i) c3 _ w3 HA3.out
        have HE3 : Hid (E = if apartL (zs ++ fs.take i) = true then 0 else 1) := Lib.hid (by rw [HE.out, HP.out, Bool.true_and])
        generalize apartL (zs ++ fs.take i) = R at *
        refine wpAny_ready (rs := [7]) (by kernel_rfl) (by simp) ?_
        refine AllReady.cons (o := ⟨some 30, _, _, _, _, _⟩) rfl (fun K hK => ?_) AllReady.nil
        go_simp
        go_at_call 21
        refine cR.mono ?_
        rintro e w4 ⟨rfl, hb4⟩
        have HB4 := Lib.hid (HB3.out.trans (hb4.mono HB3.out.size))
        clear hb4 cR
        try (go_wp2_with fail)
        try clear hK
        try clear K
        refine wpAny_take (i := 8) (oi := ⟨some 31, _, _, _, _, _⟩) (v := .bool (!R)) rfl (by kernel_rfl) (by kernel_rfl) (by kernel_rfl) (fun _ _ _ h => h) (Or.inl ⟨by kernel_rfl, fun w => rfl⟩) ?_
        refine wpAny_done (by kernel_rfl) ?_ _
        cases R
        · obtain rfl : E = 1 := by rw [HE3.out]; rfl
          go_wp2_with fail
          go_ret
          exact ⟨rfl, HB4.out⟩
        · obtain rfl : E = 0 := by rw [HE3.out]; rfl
          go_wp2_with fail
          go_ret
          exact ⟨rfl, HB4.out⟩

/-- The cells of the writes: their data in blocks of F, none in the row's own. -/
def CellsW (F : Nat → Prop) (w : World) (v : Value) (xs : List Value) (ws : List (Int × List Int)) : Prop :=
  ∀ (j : Nat) (a : Int) (zs : List Int), ws[j]? = some (a, zs) → xs[j * 2]? = some (.int .i64 a) ∧ I64 a ∧ ((zs = [] ∧ xs[j * 2 + 1]? = some (.slice none 0 0)) ∨
    ∃ db off cap, xs[j * 2 + 1]? = some (.slice (some ⟨db, off, none⟩) 64 cap) ∧ F db ∧ v.ownBlock ≠ some db ∧ Arg w (some ⟨db, off, none⟩) 64 cap zs)

def OutW (base : Nat) (F : Nat → Prop) (w : World) (v : Value) (ws : List (Int × List Int)) : Prop :=
  (∀ k, F k → base ≤ k ∧ k < w.heap.size) ∧ (∀ b, v.ownBlock = some b → F b) ∧ ∃ xs, w.ownsRow base 64 2 v ws.length xs ∧ CellsW F w v xs ws

theorem CellsW.grown {F : Nat → Prop} {w w' : World} {v : Value} {xs : List Value} {ws : List (Int × List Int)} {row : Option Nat} (h : CellsW F w v xs ws) (hg : w.grownBy w' row) (hr : ∀ b, row = some b → ¬ F b) : CellsW F w' v xs ws := fun j a zs hj => by
  obtain ⟨c1, c2, c3⟩ := h j a zs hj
  refine ⟨c1, c2, c3.imp_right ?_⟩
  rintro ⟨db, off, cap, d1, d2, d3, d4⟩
  exact ⟨db, off, cap, d1, d2, d3, arg_grown d4 hg (fun e => hr _ e d2)⟩

theorem OutW.grown {base : Nat} {F : Nat → Prop} {w w' : World} {v : Value} {ws : List (Int × List Int)} {row : Option Nat} (h : OutW base F w v ws) (hg : w.grownBy w' row) (hr : ∀ b, row = some b → ¬ F b) : OutW base F w' v ws := by
  obtain ⟨h1, h2, xs, h3, h4⟩ := h
  refine ⟨fun k hk => ⟨(h1 k hk).1, Nat.lt_of_lt_of_le (h1 k hk).2 hg.size⟩, h2, xs, h3.kept hg ?_, h4.grown hg hr⟩
  cases hb : v.ownBlock with
  | none => exact Or.inl rfl
  | some b => exact Or.inr (fun e => hr b e.symm (h2 b hb))

theorem grown_of_below {w w' : World} (hb : Below w.heap.size w w') : w.grownBy w' none := ⟨hb.os, hb.tape, hb.output, hb.size, fun k hk _ => hb.block k hk⟩

theorem OutW.later {base : Nat} {F : Nat → Prop} {w w' : World} {v : Value} {ws : List (Int × List Int)} (h : OutW base F w v ws) (hb : Below w.heap.size w w') : OutW base F w' v ws :=
  h.grown (grown_of_below hb) (fun b e => by cases e)

theorem OutW.keeps {base g : Nat} {F : Nat → Prop} {w w' : World} {v : Value} {ws : List (Int × List Int)} (h : OutW base F w v ws) (hk : Keeps g w w') (hg : g < base) : OutW base F w' v ws := by
  obtain ⟨h1, h2, xs, h3, h4⟩ := h
  refine ⟨fun k hF => ⟨(h1 k hF).1, by rw [hk.1]; exact (h1 k hF).2⟩, h2, xs, owns_keeps h3 hk hg, fun j a zs hj => ?_⟩
  obtain ⟨c1, c2, c3⟩ := h4 j a zs hj
  refine ⟨c1, c2, c3.imp_right ?_⟩
  rintro ⟨db, off, cap, d1, d2, d3, d4⟩
  exact ⟨db, off, cap, d1, d2, d3, arg_keeps d4 hk (by have := (h1 db d2).1; omega)⟩

/-- What a datum is: none yet, or 64 bytes in a block of their own. -/
def Datum (lo : Nat) (w : World) (dv : Value) (zs : List Int) : Prop :=
  (zs = [] ∧ dv = .slice none 0 0) ∨ ∃ db off cap, dv = .slice (some ⟨db, off, none⟩) 64 cap ∧ (lo ≤ db ∧ db < w.heap.size) ∧ Arg w (some ⟨db, off, none⟩) 64 cap zs

theorem Datum.cell {lo : Nat} {w : World} {dv : Value} {zs : List Int} (h : Datum lo w dv zs) : dv.oneCell' = true := by
  rcases h with ⟨_, rfl⟩ | ⟨_, _, _, rfl, _⟩ <;> rfl

def moreF (F : Nat → Prop) (lo hi : Nat) (k : Nat) : Prop := F k ∨ (lo ≤ k ∧ k < hi)

theorem OutW.snoc {base : Nat} {F : Nat → Prop} {wr wx w4 : World} {v v' : Value} {ws : List (Int × List Int)} {a : Int} {zs : List Int} {xs : List Value} {dv : Value} {ob : Obj}
    (hF : ∀ k, F k → base ≤ k ∧ k < wr.heap.size) (hvF : ∀ b, v.ownBlock = some b → F b) (h1 : wr.ownsRow base 64 2 v ws.length xs) (h2 : CellsW F wr v xs ws)
    (hb : Below wr.heap.size wr wx) (hbs : base ≤ wr.heap.size) (ha : I64 a) (hd : Datum wr.heap.size wx dv zs)
    (hown : w4.ownsRow base 64 2 v' (ws.length + 1) (xs ++ [.int .i64 a, dv])) (hg : (wx.alloc ob).grownBy w4 v.ownBlock) (hv : v'.ownBlock = v.ownBlock ∨ v'.ownBlock = some (wx.alloc ob).heap.size) :
    OutW base (moreF F wr.heap.size w4.heap.size) w4 v' (ws ++ [(a, zs)]) := by
  have hxl : xs.length = ws.length * 2 := h1.1
  have hsz : wr.heap.size ≤ wx.heap.size := hb.size
  have hsz4 : (wx.alloc ob).heap.size ≤ w4.heap.size := hg.size
  rw [World.size_alloc] at hsz4
  have hnv : ∀ db, F db → v.ownBlock ≠ some db → v'.ownBlock ≠ some db := fun db hd hn => by
    rcases hv with e | e
    · rw [e]; exact hn
    · rw [e, World.size_alloc]
      intro h
      have := (hF db hd).2
      simp at h
      omega
  refine ⟨fun k hk => ?_, fun b hb' => ?_, _, by rw [List.length_append]; exact hown, fun j b ys hj => ?_⟩
  · rcases hk with hk | hk
    · exact ⟨(hF k hk).1, by have := (hF k hk).2; omega⟩
    · exact ⟨by omega, hk.2⟩
  · rcases hv with e | e
    · exact Or.inl (hvF b (e ▸ hb'))
    · have h3 := (hown.lt b hb').2
      rw [e, World.size_alloc] at hb'
      simp at hb'
      exact Or.inr ⟨by omega, h3⟩
  · by_cases hjl : j < ws.length
    · rw [List.getElem?_append_left hjl] at hj
      obtain ⟨c1, c2, c3⟩ := h2 j b ys hj
      refine ⟨by rw [List.getElem?_append_left (by omega)]; exact c1, c2, ?_⟩
      rcases c3 with ⟨e1, e2⟩ | ⟨d, o, c, d1, d2, d3, d4⟩
      · exact Or.inl ⟨e1, by rw [List.getElem?_append_left (by omega)]; exact e2⟩
      · exact Or.inr ⟨d, o, c, by rw [List.getElem?_append_left (by omega)]; exact d1, Or.inl d2, hnv d d2 d3, arg_grown ((d4.later hb).later ((Below.refl _ _).alloc (Nat.le_refl _) _)) hg d3⟩
    · have hj0 : j = ws.length := by
        have := (List.getElem?_eq_some_iff.1 hj).1
        simp at this
        omega
      subst hj0
      rw [List.getElem?_append_right (Nat.le_refl _), Nat.sub_self] at hj
      simp at hj
      obtain ⟨rfl, rfl⟩ := hj
      refine ⟨by rw [List.getElem?_append_right (by omega), hxl, Nat.sub_self]; rfl, ha, ?_⟩
      rcases hd with ⟨e1, rfl⟩ | ⟨d, o, c, rfl, d2, d4⟩
      · exact Or.inl ⟨e1, by rw [List.getElem?_append_right (by omega), show ws.length * 2 + 1 - xs.length = 1 by omega]; rfl⟩
      · have hvd : v.ownBlock ≠ some d := fun e => by have := (h1.lt d e).2; omega
        refine Or.inr ⟨d, o, c, by rw [List.getElem?_append_right (by omega), show ws.length * 2 + 1 - xs.length = 1 by omega]; rfl, Or.inr ⟨d2.1, by omega⟩, ?_, arg_grown (d4.later ((Below.refl _ _).alloc (Nat.le_refl _) _)) hg hvd⟩
        rcases hv with e | e
        · rw [e]; exact hvd
        · rw [e, World.size_alloc]
          intro h
          simp at h
          omega

/-- The list as it is handed on. -/
theorem OutW.wis {base : Nat} {F : Nat → Prop} {w : World} {v : Value} {ws : List (Int × List Int)} (h : OutW base F w v ws) (hl : ws.length ≤ 1000) : ∃ ao cap, v = .slice ao ws.length cap ∧ WIs w ao ws.length ws := by
  obtain ⟨_, _, xs, ho, hx⟩ := h
  rcases ho.2 with ⟨rfl, h0⟩ | ⟨g, cap, cur, hv, hb, _, hc, _⟩
  · exact ⟨none, 0, by rw [h0], ⟨rfl, by omega, Or.inl h0⟩⟩
  · refine ⟨_, cap, hv, ⟨rfl, by omega, Or.inr ⟨g, 0, rfl, fun j a zs hj => ?_⟩⟩⟩
    obtain ⟨c1, c2, c3⟩ := hx j a zs hj
    have e1 := ho.cells (g := g) (by rw [hv]; rfl) _ _ c1
    rw [Go.WideShapes.add_plain] at e1
    rcases c3 with ⟨rfl, e2⟩ | ⟨d, o, c, e2, _, _, d4⟩
    · have e2 := ho.cells (g := g) (by rw [hv]; rfl) _ _ e2
      rw [Go.WideShapes.add_plain] at e2
      exact ⟨e1, c2, none, 0, 0, by rw [Nat.add_assoc]; exact e2, ⟨rfl, by decide, by simp, Or.inl rfl⟩, fun _ => ⟨rfl, rfl⟩, Nat.le_refl _, by decide⟩
    · have e2 := ho.cells (g := g) (by rw [hv]; rfl) _ _ e2
      rw [Go.WideShapes.add_plain] at e2
      exact ⟨e1, c2, _, _, _, by rw [Nat.add_assoc]; exact e2, d4⟩

theorem OutW.shape {base : Nat} {F : Nat → Prop} {w : World} {v : Value} {ws : List (Int × List Int)} (h : OutW base F w v ws) (h0 : 0 < ws.length) : ∃ g cap, v = .slice (some ⟨g, 0, none⟩) ws.length cap := by
  obtain ⟨_, _, xs, ho, _⟩ := h
  rcases ho.2 with ⟨_, h⟩ | ⟨g, cap, _, hv, _⟩
  · omega
  · exact ⟨g, cap, hv⟩

/-- The datum of one of the writes is laid: where it goes may be written, and what the list is then. -/
theorem OutW.set {base : Nat} {F : Nat → Prop} {wr w : World} {v : Value} {ws : List (Int × List Int)} {j : Nat} {a : Int} {zs : List Int} {dv : Value} (h : OutW base F wr v ws) (hb : Below wr.heap.size wr w) (hj : ws[j]? = some (a, [])) (hl : ws.length ≤ 1000) (hd : Datum wr.heap.size w dv zs) :
    ∃ g cap, v = .slice (some ⟨g, 0, none⟩) ws.length cap ∧ base ≤ g ∧ g < wr.heap.size ∧ (∃ u, w.cell? ⟨g, j * 2 + 1, none⟩ = some u ∧ u = .slice none 0 0) ∧ w.frozen? ⟨g, j * 2 + 1, none⟩ = false ∧
      ∀ W, (∀ p : Addr, base ≤ p.block → p ≠ ⟨g, j * 2 + 1, none⟩ → W.cell? p = w.cell? p) → W.cell? ⟨g, j * 2 + 1, none⟩ = some dv → WIs W (some ⟨g, 0, none⟩) ws.length (ws.set j (a, zs)) := by
  obtain ⟨hF0, hvF, xs, ho0, hx0⟩ := h
  have ho := owns_later_r ho0 hb
  have hx := hx0.grown (grown_of_below hb) (fun b e => by cases e)
  have hjl := (List.getElem?_eq_some_iff.1 hj).1
  have hxl : xs.length = ws.length * 2 := ho.1
  rcases ho.2 with ⟨rfl, h0⟩ | ⟨g, cap, cur, hv, hbg, _, hc, _⟩
  · omega
  · have hgl := (ho0.lt g (by rw [hv]; rfl)).2
    obtain ⟨_, _, c3⟩ := hx j a [] hj
    have hnil : xs[j * 2 + 1]? = some (.slice none 0 0) := by
      rcases c3 with ⟨_, e2⟩ | ⟨d, o, c, _, _, _, d4⟩
      · exact e2
      · have := d4.1.1; simp at this
    have hcell := ho.cells (g := g) (by rw [hv]; rfl) _ _ hnil
    rw [Go.WideShapes.add_plain, Nat.zero_add] at hcell
    have hfr : w.frozen? ⟨g, j * 2 + 1, none⟩ = false := by
      rw [hv] at ho
      exact ho.frozenAt _
    refine ⟨g, cap, hv, hbg, hgl, ⟨_, hcell, rfl⟩, hfr, fun W hW hWd => ⟨by simp, by omega, Or.inr ⟨g, 0, rfl, fun i b ys hi => ?_⟩⟩⟩
    rw [List.getElem?_set] at hi
    have arg_W : ∀ {db off c : Nat} {ys : List Int}, base ≤ db → db ≠ g → Arg w (some ⟨db, off, none⟩) 64 c ys → Arg W (some ⟨db, off, none⟩) 64 c ys := by
      rintro db off c ys hbd hne ⟨⟨h1, h2, h3, h4⟩, h5⟩
      refine ⟨⟨h1, h2, h3, h4.imp_right ?_⟩, h5⟩
      rintro ⟨b, o, he, hc⟩
      simp only [Option.some.injEq, Addr.mk.injEq, and_true] at he
      obtain ⟨rfl, rfl⟩ := he
      exact ⟨db, off, rfl, fun i hi => by rw [hW ⟨db, off + i, none⟩ hbd (fun e => hne (by simpa using congrArg Addr.block e))]; exact hc i hi⟩
    have cellW : ∀ (i : Nat) (u : Value), xs[i]? = some u → i ≠ j * 2 + 1 → W.cell? ⟨g, 0 + i, none⟩ = some u := fun i u hu hne => by
      rw [hW ⟨g, 0 + i, none⟩ hbg (fun e => hne (by have := congrArg Addr.off e; simpa using this))]
      have e1 := ho.cells (g := g) (by rw [hv]; rfl) _ _ hu
      rwa [Go.WideShapes.add_plain] at e1
    by_cases hij : j = i
    · subst hij
      rw [if_pos rfl, if_pos hjl] at hi
      simp only [Option.some.injEq, Prod.mk.injEq] at hi
      obtain ⟨rfl, rfl⟩ := hi
      obtain ⟨c1, c2, _⟩ := hx j a [] hj
      refine ⟨cellW _ _ c1 (by omega), c2, ?_⟩
      rcases hd with ⟨rfl, rfl⟩ | ⟨d, o, c, rfl, d2, d4⟩
      · exact ⟨none, 0, 0, by rw [Nat.zero_add]; exact hWd, ⟨rfl, by decide, by simp, Or.inl rfl⟩, fun _ => ⟨rfl, rfl⟩, Nat.le_refl _, by decide⟩
      · exact ⟨_, _, _, by rw [Nat.zero_add]; exact hWd, arg_W (by omega) (by omega) d4⟩
    · rw [if_neg hij] at hi
      obtain ⟨c1, c2, c3⟩ := hx i b ys hi
      refine ⟨cellW _ _ c1 (by omega), c2, ?_⟩
      rcases c3 with ⟨rfl, e2⟩ | ⟨d, o, c, e2, d2, d3, d4⟩
      · exact ⟨none, 0, 0, by rw [Nat.add_assoc]; exact cellW _ _ e2 (by omega), ⟨rfl, by decide, by simp, Or.inl rfl⟩, fun _ => ⟨rfl, rfl⟩, Nat.le_refl _, by decide⟩
      · exact ⟨_, _, _, by rw [Nat.add_assoc]; exact cellW _ _ e2 (by omega), arg_W (hF0 d d2).1 (fun e => d3 (by rw [hv, e]; rfl)) d4⟩

/-- A variable's cells are kept by whatever lies behind it. -/
theorem OwnV.below {base g B : Nat} {w0 wr wx : World} {xs : List Value} (h : OwnV base w0 g xs wr) (hb : Below B wr wx) (hg : g < B) (hB : base ≤ B) : OwnV base w0 g xs wx :=
  ⟨fun j x hj => by rw [hb.cell (p := ⟨g, j, none⟩) hg]; exact h.1 j x hj, fun j => by rw [hb.frozen (p := ⟨g, j, none⟩) hg]; exact h.2.1 j, h.2.2.1, h.2.2.2.trans (hb.mono hB)⟩

end Go.Proofs.Ytdbkhhmadefccaa
