/-
  Proved here: what the landed image's state answers: its flags, its Super, a half of a block of nodes, setting these. The conditions stand at each theorem. Proved here: what the landed image's state answers: its Super, a node, halves of blocks of nodes, its flags, its end; and that these are set. The conditions stand at each theorem. Proved here: what the landed image's state answers when its Super, or a node, is set; its end; which blocks are there. The conditions stand at each theorem. Proved here: where the landed image lies (ImgI); what slices.Clone of blocks, none, Settle, Undo and of answer. The conditions stand at each theorem.
-/
import Derived.Test.YthklefelkdhblaaGreatDoorNn1
import Derived.Test.YthklefelkdhblaaGreatDoorNn2
import Derived.Test.YthklefelkdhblaaGreatDoorNn3
import Derived.Test.YthklefelkdhblaaGreatDoorNn8
namespace Go.Proofs.YthklefelkdhblaaGreatDoor
open Go.RowKit
set_option linter.unusedVariables false
set_option linter.unusedSimpArgs false

/-! ### Plain words -/
def supAt (B : List (List Int)) : PSup := getSup (B.getD 0 [])
def flagsAt (B : List (List Int)) : List Int := (B.getD 2 []).take 60
def halfAt (B : List (List Int)) (n : Nat) : List Int := ((B.getD (3 + n / 2) []).drop (n % 2 * 32)).take 32
def withFlags (B : List (List Int)) (f : List Int) : List (List Int) := B.set 2 (sealOf sumS f)
def withSuper (B : List (List Int)) (s : PSup) : List (List Int) := B.set 0 (supBlock s)
def withNode (B : List (List Int)) (n : Nat) (x : PNode) : List (List Int) := B.set (3 + n / 2) (lay (B.getD (3 + n / 2) []) (n % 2 * 32) (node32 x))

/-! ### Memory -/
def zeroB : Array Value := (bys (List.replicate 64 0)).toArray
set_option maxRecDepth 100000 in
theorem alloc_blk (w : World) : (Instr.alloc 97 true (.tuple #[])).run Tryz.prog w = .ok (.pointer (some ⟨w.heap.size, 0, none⟩)) (w.alloc (.cells zeroB 97)) := by
  rfl

section
variable {ops : Array Oper} {rest : List Oper} {o : Oper} {a : Act} {w : World} {Q : Exit → Act → World → Prop}

/-- A new variable of a block. -/
theorem wp_new_blk (hg : o.guard = none) (ho : o.op = .alloc 97) (dst : Option Tmp) (hd : o.dst = dst)
    (h : ∀ n1 w1, n1 = w.heap.size → w1 = w.alloc (.cells zeroB 97) → wpList Tryz.prog ops Q rest (a.put dst (.pointer (some ⟨n1, 0, none⟩))) w1) : wpList Tryz.prog ops Q (o :: rest) a w := by
  subst hd
  refine wpList_plain hg fun K hK => ?_
  unfold Oper.wp execOp
  simp only [ho, Sem.run_bind, alloc_blk, Sem.run_pure, Result.andThen_ok]
  exact hK _ _ (h _ _ rfl rfl)
end

theorem new_own {w w1 : World} {n1 : Nat} (hn : n1 = w.heap.size) (hw : w1 = w.alloc (.cells zeroB 97)) : Own w.heap.size w n1 (List.replicate 64 0) w1 := by
  subst hn hw
  refine ⟨by simp, fun j hj => ?_, fun j => by rw [World.frozen?_alloc_mark]; simp, Nat.le_refl _, (Below.refl _ _).alloc (Nat.le_refl _) _⟩
  rw [List.length_replicate] at hj
  rw [World.cell?_alloc_new]
  unfold zeroB
  rw [List.getElem?_toArray, bys_at (by rw [List.length_replicate]; exact hj)]

theorem seal_laid {f : List Int} (hf : f.length = 60) : sealOut sumS (lay (List.replicate 64 0) 0 f) = sealOf sumS f := by
  have hl : lay (List.replicate 64 0) 0 f = f ++ List.replicate 4 0 := by
    rw [lay_eq _ _ _ (by rw [List.length_replicate]; omega), hf]
    simp
  unfold sealOut
  rw [hl, if_pos (by simp [hf])]
  unfold sealOf
  simp [hf, List.take_of_length_le (show f.length ≤ 60 by omega)]

theorem fresh_slice {w : World} {base : Nat} {v : Value} {l : List Int} (h : Fresh w base v l) (h0 : l ≠ []) : ∃ g off cap, v = .slice (some ⟨g, off, none⟩) l.length cap ∧ Arg w (some ⟨g, off, none⟩) l.length cap l ∧ base ≤ g := by
  obtain ⟨ao, cap, hv, hA, hf⟩ := h
  rcases hf with h1 | ⟨g, off, rfl, hg, _⟩
  · exact absurd h1 h0
  · exact ⟨g, off, cap, hv, hA, hg⟩

theorem sealAny_length (sum : List Int → Int) (zs : List Int) : (sealOf sum zs).length = 64 := by
  unfold sealOf
  simp only [List.length_append, List.length_take, List.length_replicate, leB_length]
  omega

set_option maxRecDepth 100000 in
set_option maxHeartbeats 1600000 in
theorem setFlags_any {w : World} {p q g n cap c2 : Nat} {L : List (List Int)} {ao : Option Addr} {f : List Int} (hp : w.cell? ⟨p, q, none⟩ = some (.slice (some ⟨g, 0, none⟩) n cap)) (hR : Rw w g L) (hn : L.length = n) (hi : 2 < n) (hA : Arg w ao 60 c2 f) :
    Calls Tryz.prog 39 #[.pointer (some ⟨p, q, none⟩), .slice ao 60 c2] w fun e w' => e = .returned (.tuple #[]) ∧ Rw w' g (withFlags L f) ∧ Grew (fun k => k = g) (fun k => k = g) w w' := by
  have HR := Lib.hid hR
  have HN := Lib.hid hn
  have HA := Lib.hid hA
  have HP := Lib.hid hp
  have hg := hR.lt (by omega)
  have hp0 := World.block_lt_of_cell? _ _ hp
  have HS := Lib.hid (seal_laid hA.1.1)
  clear hA hR hn hp
  go_enter Tryz.func39, Tryz.ntmps39
  go_wp2_with (first
    | (refine wp_new_blk rfl rfl (some 4) rfl ?_; intro n1 w1 hn1 hw1; have HO := Lib.hid (new_own hn1 hw1); have HA1 := Lib.hid (HA.out.later HO.out.2.2.2.2); clear hn1 hw1)
    | (refine wp_copy rfl (.tmp 5) (.tmp 6) 62 62 rfl _ _ rfl rfl _ (own_copy_bytes HO.out (by simp) ao 60 c2 f HA1.out.1 (by decide) _) ?_; rintro v2 w2 ⟨rfl, hO2⟩; have HO2 := Lib.hid hO2; clear hO2)
    | (go_at_call 91
       have hA2 : Arg w2 (some ⟨n1, 0, none⟩) 64 64 (lay (List.replicate 64 0) 0 f) := by
         have h := HO2.out.bts (by rw [lay_length, List.length_replicate]; decide)
         rw [lay_length, List.length_replicate] at h
         exact ⟨h, by simp, by decide, by decide⟩
       have cS := fSeal_any _ _ 64 _ _ hA2
       rw [show sealErr 64 = 0 from rfl, HS.out] at cS
       refine cS.mono ?_
       rintro e w3 ⟨v3, rfl, hF3, hb3⟩
       obtain ⟨g3, o3, c3, rfl, hA3, hg3⟩ := fresh_slice hF3 (fun h => by have := sealAny_length sumS f; rw [h] at this; cases this)
       rw [sealAny_length] at hA3 ⊢
       have HA3 := Lib.hid hA3
       have HB3 := Lib.hid (HO2.out.2.2.2.2.trans (hb3.mono HO2.out.2.2.2.2.size))
       clear cS hA2 hF3 hb3 hA3 hg3)
    | (go_at_call 37; refine (mustB_any _ _).mono ?_; rintro e w4 ⟨rfl, rfl⟩)
    | (go_at_call 36
       refine (put_any (i := 2) (by rw [HB3.out.cell (p := ⟨p, q, none⟩) hp0]; exact HP.out) (HR.out.kept (HB3.out.block g hg)) HN.out hi HA3.out).mono ?_
       rintro e w5 ⟨rfl, hR5, hG5⟩
       have HF := Lib.hid (And.intro hR5 ((Grew.of_below HB3.out).trans hG5))
       clear hR5 hG5))
  go_end0
  exact ⟨rfl, HF.out.1, HF.out.2⟩
end Go.Proofs.YthklefelkdhblaaGreatDoor


namespace Go.Proofs.YthklefelkdhblaaGreatDoor
open Go.RowKit
set_option linter.unusedVariables false
set_option linter.unusedSimpArgs false

theorem results_c1 {fn : Func} {p : Tmp} {ty : TypeId} (h : fn.results = #[.cell p ty]) (tmps : Array Value) (P : Program) (w : World) :
    (results fn tmps).run P w = ((asAddr (tmps.getD p undef)).run P w).andThen fun a w₁ => (loadVar ty a).run P w₁ := by
  simp only [results, h]
  simp [Sem.run_bind, Result.andThen]

theorem results_p1 {fn : Func} {p : Tmp} {ty : TypeId} {a : Addr} (h : fn.results = #[.cell p ty]) (tmps : Array Value) (ha : tmps.getD p undef = .pointer (some a)) (P : Program) (w : World) :
    (results fn tmps).run P w = (loadVar ty a).run P w := by
  rw [results_c1 h, ha]
  rfl

set_option maxHeartbeats 800000 in
theorem mustS_any (s : PSup) (w : World) : Calls Tryz.prog 102 #[s.val, .int .i64 0] w fun e w' => e = .returned s.val ∧ Below w.heap.size w w' := by
  obtain ⟨a, b, c, d, e⟩ := s
  unfold PSup.val
  go_enter Tryz.func102, Tryz.ntmps102
  go_wp2_with fail
  refine bodyPost_ret (v := .agg #[.int .i64 a, .int .i64 b, .int .i64 c, .int .i64 d, .int .i64 e]) ?_ rfl ⟨rfl, ?_⟩
  · rw [results_c1 rfl]
    go_simp
    try rfl
  · exact ((Below.refl _ _).alloc (Nat.le_refl _) _).alloc (by simp) _

set_option maxHeartbeats 1600000 in
theorem mustN_any (n : PNode) (xo : Option Addr) (m xc : Nat) (w : World) : Calls Tryz.prog 112 #[n.val (.slice xo m xc), .int .i64 0] w fun e w' => e = .returned (n.val (.slice xo m xc)) ∧ Below w.heap.size w w' := by
  obtain ⟨k, f, l, z, d0, d1, d2, d3, s, t, x, c⟩ := n
  unfold PNode.val
  go_enter Tryz.func112, Tryz.ntmps112
  go_wp2_with fail
  refine bodyPost_ret (v := .agg #[.int .i64 k, .int .i64 f, .int .i64 l, .int .i64 z, .int .i64 d0, .int .i64 d1, .int .i64 d2, .int .i64 d3, .int .i64 s, .int .i64 t, .slice xo m xc, .int .i64 c]) ?_ rfl ⟨rfl, ?_⟩
  · rw [results_c1 rfl]
    go_simp
    try rfl
  · exact ((Below.refl _ _).alloc (Nat.le_refl _) _).alloc (by simp) _

theorem one_sup (a b c d e : Int) : (#[.int .i64 a, .int .i64 b, .int .i64 c, .int .i64 d, .int .i64 e] : Array Value).all (·.oneCell') = true := by simp [Value.oneCell']
theorem one_node (k f l z d0 d1 d2 d3 s t c : Int) (xo : Option Addr) (m xc : Nat) : (#[.int .i64 k, .int .i64 f, .int .i64 l, .int .i64 z, .int .i64 d0, .int .i64 d1, .int .i64 d2, .int .i64 d3, .int .i64 s, .int .i64 t, .slice xo m xc, .int .i64 c] : Array Value).all (·.oneCell') = true := by simp [Value.oneCell']

theorem there_newC {w : World} {cs : Array Value} {T : TypeId} {w1 : World} {n : Nat} (hb : Below (w.alloc (.cells cs T)).heap.size (w.alloc (.cells cs T)) w1) (hn : cs.size = n) : w1.there w.heap.size 0 n := fun j hj => by
  subst hn
  have hl : w.heap.size < (w.alloc (.cells cs T)).heap.size := by simp
  refine ⟨?_, ?_⟩
  · rw [hb.cell (p := ⟨w.heap.size, 0 + j, none⟩) hl, Nat.zero_add, World.cell?_alloc_new]
    simp [hj]
  · rw [hb.frozen (p := ⟨w.heap.size, 0 + j, none⟩) hl, World.frozen?_alloc_mark]
    simp

theorem load_sup {W : World} {b : Nat} {s : PSup} (h : W.rangeAt b 0 [.int .i64 s.a, .int .i64 s.b, .int .i64 s.c, .int .i64 s.d, .int .i64 s.e]) : (loadVar 32 ⟨b, 0, none⟩).run Tryz.prog W = .ok s.val W :=
  run_loadVar_mid W b 0 32 [.int .i64 s.a, .int .i64 s.b, .int .i64 s.c, .int .i64 s.d, .int .i64 s.e] _ h Tryz.underlying32 rfl (by kernel_rfl)
theorem load_node {W : World} {b : Nat} {n : PNode} {xo : Option Addr} {m xc : Nat} (h : W.rangeAt b 0 [.int .i64 n.k, .int .i64 n.f, .int .i64 n.l, .int .i64 n.z, .int .i64 n.d0, .int .i64 n.d1, .int .i64 n.d2, .int .i64 n.d3, .int .i64 n.s, .int .i64 n.t, .slice xo m xc, .int .i64 n.c]) : (loadVar 49 ⟨b, 0, none⟩).run Tryz.prog W = .ok (n.val (.slice xo m xc)) W :=
  run_loadVar_mid W b 0 49 [.int .i64 n.k, .int .i64 n.f, .int .i64 n.l, .int .i64 n.z, .int .i64 n.d0, .int .i64 n.d1, .int .i64 n.d2, .int .i64 n.d3, .int .i64 n.s, .int .i64 n.t, .slice xo m xc, .int .i64 n.c] _ h Tryz.underlying49 rfl (by kernel_rfl)

theorem below_new {w : World} {cs : Array Value} {T : TypeId} {w1 : World} (hb : Below (w.alloc (.cells cs T)).heap.size (w.alloc (.cells cs T)) w1) : Below w.heap.size w w1 :=
  ((Below.refl _ _).alloc (Nat.le_refl _) _).trans (hb.mono (by simp))

theorem isSup_err {zs : List Int} (h : isSup zs = true) : getSupErr zs = 0 := by unfold getSupErr; rw [if_pos h]

set_option maxRecDepth 100000 in
set_option maxHeartbeats 1600000 in
theorem super_any {w : World} {p q g n cap : Nat} {L : List (List Int)} (hp : w.cell? ⟨p, q, none⟩ = some (.slice (some ⟨g, 0, none⟩) n cap)) (hR : Rw w g L) (hn : L.length = n) (hi : 0 < n) (hS : isSup (L.getD 0 []) = true) :
    Calls Tryz.prog 53 #[.pointer (some ⟨p, q, none⟩)] w fun e w' => e = .returned (supAt L).val ∧ Below w.heap.size w w' := by
  have hA := hR.whole (i := 0) (cap := 64) (by omega) (by decide)
  rw [Nat.zero_mul] at hA
  have hp0 := World.block_lt_of_cell? _ _ hp
  obtain ⟨a, b, c, d, e, hX⟩ : ∃ a b c d e, getSup (L.getD 0 []) = ⟨a, b, c, d, e⟩ := ⟨_, _, _, _, _, rfl⟩
  have hX2 : supAt L = ⟨a, b, c, d, e⟩ := hX
  have HC : Hid (∀ W, Below w.heap.size w W → Calls Tryz.prog 103 #[.slice (some ⟨g, 0, none⟩) 64 64] W fun e' w' => e' = .returned (.tuple #[.agg #[.int .i64 a, .int .i64 b, .int .i64 c, .int .i64 d, .int .i64 e], .int .i64 0]) ∧ Below W.heap.size W w') := Lib.hid (fun W hW => by
    have h := sdec_any _ _ _ _ _ (hA.later hW)
    rw [isSup_err hS, hX] at h
    exact h)
  have HX := Lib.hid hX2
  clear hA hR hn hS hX hX2
  go_enter Tryz.func53, Tryz.ntmps53
  go_wp2_with (first
    | (go_at_call 103; refine (HC.out _ ((Below.refl _ _).alloc (Nat.le_refl _) _)).mono ?_; rintro e' w3 ⟨rfl, hb3⟩; have HB3 := Lib.hid hb3; clear hb3)
    | (go_at_call 102; refine (mustS_any ⟨a, b, c, d, e⟩ _).mono ?_; rintro e' w4 ⟨rfl, hb4⟩; have HB4 := Lib.hid (HB3.out.trans (hb4.mono HB3.out.size)); clear hb4; unfold PSup.val)
    | (refine wpList_store_mid rfl 32 (.tmp 2) (.tmp 12) rfl w.heap.size 0 #[.int .i64 a, .int .i64 b, .int .i64 c, .int .i64 d, .int .i64 e] rfl rfl (there_newC HB4.out rfl) (by kernel_rfl) (one_sup _ _ _ _ _) ?_))
  refine bodyPost_ret (v := (supAt L).val) ?_ rfl ⟨rfl, below_cells _ (Nat.le_refl _) _ _ _ (below_new HB4.out)⟩
  rw [results_p1 rfl _ rfl, HX.out]
  exact load_sup (s := ⟨a, b, c, d, e⟩) (World.rangeAt_setCells_same _ _ _ _ (there_newC HB4.out rfl))

set_option maxHeartbeats 800000 in
theorem flags_any {w : World} {p q g n cap : Nat} (hp : w.cell? ⟨p, q, none⟩ = some (.slice (some ⟨g, 0, none⟩) n cap)) (hi : 2 < n) :
    Calls Tryz.prog 55 #[.pointer (some ⟨p, q, none⟩)] w fun e w' => e = .returned (.slice (some ⟨g, 128, none⟩) 60 64) ∧ w = w' := by
  have h2 : ((2 : Nat) : Int) < (n : Int) := by omega
  go_enter Tryz.func55, Tryz.ntmps55
  go_wp2_with fail
  go_ret
  exact ⟨rfl, rfl⟩

set_option maxHeartbeats 800000 in
theorem half_any {w : World} {p q g n cap : Nat} (k : Nat) (hp : w.cell? ⟨p, q, none⟩ = some (.slice (some ⟨g, 0, none⟩) n cap)) (hi : 18 < n) (hk : k < 32) :
    Calls Tryz.prog 95 #[.pointer (some ⟨p, q, none⟩), .int .i64 k] w fun e w' => e = .returned (.slice (some ⟨g, (3 + k / 2) * 64 + k % 2 * 32, none⟩) 32 (64 - k % 2 * 32)) ∧ w = w' := by
  obtain ⟨r, hr⟩ : ∃ r : Nat, k % 2 = r := ⟨_, rfl⟩
  obtain ⟨a, ha⟩ : ∃ a : Nat, k / 2 = a := ⟨_, rfl⟩
  obtain ⟨b, hb⟩ : ∃ b : Nat, 3 + a = b := ⟨_, rfl⟩
  obtain ⟨d, hd⟩ : ∃ d : Nat, r * 32 = d := ⟨_, rfl⟩
  obtain ⟨e, he⟩ : ∃ e : Nat, d + 32 = e := ⟨_, rfl⟩
  rw [hr, ha, hb, hd]
  have e1 : (k : Int) % 2 = (r : Int) := by omega
  have e2 : (k : Int) / 2 = (a : Int) := by omega
  have e3 : (3 : Int) + (a : Int) = (b : Int) := by omega
  have e4 : (r : Int) * 32 = (d : Int) := by omega
  have e5 : (d : Int) + 32 = (e : Int) := by omega
  have l1 : (0 : Int) ≤ (k : Int) := by omega
  have l2 : (k : Int) < 32 := by omega
  have l3 : (r : Int) ≤ 1 := by omega
  have l4 : (a : Int) ≤ 15 := by omega
  have l5 : (b : Int) < (n : Int) := by omega
  have l6 : d ≤ e := by omega
  have l7 : (e : Int) ≤ 64 := by omega
  have l8 : b < n := by omega
  have l9 : e ≤ 64 := by omega
  have HX : Hid (e - d = 32) := Lib.hid (by omega)
  clear hr ha hb hd he hk hi
  go_enter Tryz.func95, Tryz.ntmps95
  go_wp2_with fail
  go_ret
  exact ⟨by rw [HX.out]; rfl, rfl⟩

/-- What a node's extents are stays so while a block turns that has no complex number. -/
theorem XIs.apart {w w' : World} {xo : Option Addr} {m g : Nat} {xs : List PX} (h : XIs w xo m xs) (hk : ∀ k, k ≠ g → w'.heap[k]? = w.heap[k]?) (hg : ∀ o f c v, w.cell? ⟨g, o, none⟩ = some v → ¬ CX v f c) : XIs w' xo m xs := by
  obtain ⟨h1, h2, h3⟩ := h
  refine ⟨h1, h2, ?_⟩
  rcases h3 with h3 | ⟨b, off, rfl, hc⟩
  · exact Or.inl h3
  · by_cases h0 : m = 0
    · exact Or.inl h0
    · have hb : b ≠ g := fun e => by
        obtain ⟨x, hx⟩ : ∃ x, xs[0]? = some x := ⟨_, List.getElem?_eq_getElem (by omega)⟩
        obtain ⟨_, v, hv, hC⟩ := hc 0 x hx
        exact hg _ _ _ v (by rw [← e]; exact hv) hC
      refine Or.inr ⟨b, off, rfl, fun i x hx => ?_⟩
      obtain ⟨c1, v, c2, c3⟩ := hc i x hx
      exact ⟨by rw [cell_of_heap (p := ⟨b, off + i * 2, none⟩) (hk b hb)]; exact c1, v, by rw [cell_of_heap (p := ⟨b, off + i * 2 + 1, none⟩) (hk b hb)]; exact c2, c3⟩

def nodeZ : Array Value := #[.int .i64 0, .int .i64 0, .int .i64 0, .int .i64 0, .int .i64 0, .int .i64 0, .int .i64 0, .int .i64 0, .int .i64 0, .int .i64 0, .slice none 0 0, .int .i64 0]
theorem nodeZ_no (o : Nat) (f c : Int) (v : Value) (h : nodeZ[o]? = some v) : ¬ CX v f c := by
  unfold nodeZ at h
  match o, h with
  | 0, h | 1, h | 2, h | 3, h | 4, h | 5, h | 6, h | 7, h | 8, h | 9, h | 10, h | 11, h => cases Option.some.inj h; intro hC; simp [CX] at hC
  | n + 12, h => cases h

theorem heap_setCells (g : Nat) : ∀ (vs : List Value) (o : Nat) (w : World) (k : Nat), k ≠ g → (w.setCells g o vs).heap[k]? = w.heap[k]?
  | [], _, _, _, _ => rfl
  | v :: r, o, w, k, h => by rw [World.setCells, heap_setCells g r (o + 1) _ k h, Below.heap_setCell _ _ _ _ h]

theorem isNode_err {zs : List Int} (h : isNode zs = true) : decErr zs = 0 := by unfold decErr; rw [if_pos h]

set_option maxRecDepth 100000 in
set_option maxHeartbeats 1600000 in
theorem node_any {w : World} {p q g n cap : Nat} {L : List (List Int)} (k : Nat) (hp : w.cell? ⟨p, q, none⟩ = some (.slice (some ⟨g, 0, none⟩) n cap)) (hR : Rw w g L) (hn : L.length = n) (hi : 18 < n) (hk : k < 32) (hN : isNode (halfAt L k) = true) :
    Calls Tryz.prog 64 #[.pointer (some ⟨p, q, none⟩), .int .i64 k] w fun e w' => ∃ xo m xc, e = .returned ((decN (halfAt L k)).val (.slice xo m xc)) ∧ XIs w' xo m (decN (halfAt L k)).x ∧ (m ≤ xc ∧ xc ≤ 9223372036854775807) ∧ Below w.heap.size w w' := by
  have hA : Arg w (some ⟨g, (3 + k / 2) * 64 + k % 2 * 32, none⟩) 32 (64 - k % 2 * 32) (halfAt L k) := hR.arg (by omega) (by omega) (by omega)
  have hp0 := World.block_lt_of_cell? _ _ hp
  have hpl : ∀ W, Below w.heap.size w W → W.cell? ⟨p, q, none⟩ = some (.slice (some ⟨g, 0, none⟩) n cap) := fun W hW => by rw [hW.cell (p := ⟨p, q, none⟩) hp0]; exact hp
  have HH : Hid (∀ W, Below w.heap.size w W → Calls Tryz.prog 95 #[.pointer (some ⟨p, q, none⟩), .int .i64 k] W fun e w' => e = .returned (.slice (some ⟨g, (3 + k / 2) * 64 + k % 2 * 32, none⟩) 32 (64 - k % 2 * 32)) ∧ W = w') := Lib.hid (fun W hW => half_any k (hpl W hW) hi hk)
  obtain ⟨D, hD⟩ : ∃ D, decN (halfAt L k) = D := ⟨_, rfl⟩
  have HC : Hid (∀ W, Below w.heap.size w W → Calls Tryz.prog 108 #[.slice (some ⟨g, (3 + k / 2) * 64 + k % 2 * 32, none⟩) 32 (64 - k % 2 * 32)] W fun e w' => ∃ xo m xc, e = .returned (.tuple #[D.val (.slice xo m xc), .int .i64 0]) ∧ XIs w' xo m D.x ∧ (m ≤ xc ∧ xc ≤ 9223372036854775807) ∧ Below W.heap.size W w') := Lib.hid (fun W hW => by
    have h := ndec_any _ _ _ _ _ (hA.later hW)
    rw [isNode_err hN, hD] at h
    exact h)
  rw [hD]
  clear hA hR hn hN hD hpl hp
  generalize (3 + k / 2) * 64 + k % 2 * 32 = o at *
  generalize 64 - k % 2 * 32 = c2 at *
  obtain ⟨k0, f, l, z, d0, d1, d2, d3, s, t, x, c⟩ := D
  go_enter Tryz.func64, Tryz.ntmps64
  go_wp2_with (first
    | (go_at_call 95; refine (HH.out _ ((Below.refl _ _).alloc (Nat.le_refl _) _)).mono ?_; rintro e' w3 ⟨rfl, rfl⟩)
    | (go_at_call 108; refine (HC.out _ ((Below.refl _ _).alloc (Nat.le_refl _) _)).mono ?_; rintro e' w3 ⟨xo, m, xc, rfl, hx3, hm3, hb3⟩; have HB3 := Lib.hid hb3; have HX3 := Lib.hid hx3; have HM3 := Lib.hid hm3; clear hb3 hx3 hm3; unfold PNode.val)
    | (go_at_call 112; refine (mustN_any ⟨k0, f, l, z, d0, d1, d2, d3, s, t, x, c⟩ xo m xc _).mono ?_; rintro e' w4 ⟨rfl, hb4⟩; have HB4 := Lib.hid (HB3.out.trans (hb4.mono HB3.out.size)); have HX4 := Lib.hid (HX3.out.later hb4); clear hb4; unfold PNode.val)
    | (refine wpList_store_mid rfl 49 (.tmp 4) (.tmp 11) rfl w.heap.size 0 #[.int .i64 k0, .int .i64 f, .int .i64 l, .int .i64 z, .int .i64 d0, .int .i64 d1, .int .i64 d2, .int .i64 d3, .int .i64 s, .int .i64 t, .slice xo m xc, .int .i64 c] rfl rfl (there_newC HB4.out rfl) (by kernel_rfl) (one_node ..) ?_))
  refine bodyPost_ret (v := .agg #[.int .i64 k0, .int .i64 f, .int .i64 l, .int .i64 z, .int .i64 d0, .int .i64 d1, .int .i64 d2, .int .i64 d3, .int .i64 s, .int .i64 t, .slice xo m xc, .int .i64 c]) ?_ rfl ⟨xo, m, xc, rfl, ?_, HM3.out, below_cells _ (Nat.le_refl _) _ _ _ (below_new HB4.out)⟩
  · rw [results_p1 rfl _ rfl]
    exact load_node (n := ⟨k0, f, l, z, d0, d1, d2, d3, s, t, x, c⟩) (World.rangeAt_setCells_same _ _ _ _ (there_newC HB4.out rfl))
  · refine HX4.out.apart (g := w.heap.size) (fun j hj => heap_setCells _ _ _ _ _ hj) (fun o' f' c' v hv => ?_)
    rw [HB4.out.cell (p := ⟨w.heap.size, o', none⟩) (by simp), World.cell?_alloc_new] at hv
    exact nodeZ_no o' f' c' v hv
end Go.Proofs.YthklefelkdhblaaGreatDoor


namespace Go.Proofs.YthklefelkdhblaaGreatDoor
open Go.RowKit
set_option linter.unusedVariables false
set_option linter.unusedSimpArgs false

/-- Where the blocks end that may be taken. -/
def endOf (s : PSup) : Int := if s.c = 2 then max 59 (min s.a s.e) else s.a

theorem absent_any {w : World} {p q g n cap : Nat} (k : Int) (hp : w.cell? ⟨p, q, none⟩ = some (.slice (some ⟨g, 0, none⟩) n cap)) :
    Calls Tryz.prog 67 #[.pointer (some ⟨p, q, none⟩), .int .i64 k] w fun e w' => e = .returned (.bool (decide ((n : Int) ≤ k))) ∧ w = w' := by
  go_enter Tryz.func67, Tryz.ntmps67
  go_wp2_with fail
  go_ret
  exact ⟨rfl, rfl⟩

set_option maxRecDepth 100000 in
set_option maxHeartbeats 1600000 in
theorem setSuper_any {w : World} {p q g n cap : Nat} {L : List (List Int)} (s : PSup) (hs : s.sound = true) (hp : w.cell? ⟨p, q, none⟩ = some (.slice (some ⟨g, 0, none⟩) n cap)) (hR : Rw w g L) (hn : L.length = n) (hi : 0 < n) :
    Calls Tryz.prog 35 #[.pointer (some ⟨p, q, none⟩), s.val] w fun e w' => e = .returned (.tuple #[]) ∧ Rw w' g (withSuper L s) ∧ Grew (fun k => k = g) (fun k => k = g) w w' := by
  have hp0 := World.block_lt_of_cell? _ _ hp
  have hg := hR.lt (by omega)
  obtain ⟨a, b, c, d, e⟩ := s
  obtain ⟨O, hO⟩ : ∃ O, supBlock ⟨a, b, c, d, e⟩ = O := ⟨_, rfl⟩
  have hO64 : O.length = 64 := by rw [← hO]; exact sealAny_length _ _
  have hin : PSup.in64 ⟨a, b, c, d, e⟩ := by
    have h := of_decide_eq_true hs
    unfold PSup.in64 i64w
    simp only at h ⊢
    omega
  have HC : Hid (∀ W, Calls Tryz.prog 83 #[.agg #[.int .i64 a, .int .i64 b, .int .i64 c, .int .i64 d, .int .i64 e]] W (Handed W.heap.size W O 0)) := Lib.hid (fun W => by
    have h := senc_any ⟨a, b, c, d, e⟩ W hin
    unfold supOut supErr at h
    rw [hs, if_pos rfl, if_pos rfl, hO] at h
    exact h)
  have HW : Hid (withSuper L ⟨a, b, c, d, e⟩ = L.set 0 O) := Lib.hid (by unfold withSuper; rw [hO])
  have HO := Lib.hid hO64
  have HO0 : Hid (O ≠ []) := Lib.hid (fun h => by rw [h] at hO64; cases hO64)
  have HP := Lib.hid hp
  have HR := Lib.hid hR
  have HN := Lib.hid hn
  unfold PSup.val
  clear hO hO64 hin hs hp hR hn
  go_enter Tryz.func35, Tryz.ntmps35
  go_wp2_with (first
    | (go_at_call 83; refine (HC.out _).mono ?_; rintro e' w3 ⟨v3, rfl, hf3, hb3⟩; obtain ⟨g3, o3, c3, rfl, hA3, hg3⟩ := fresh_slice hf3 HO0.out; rw [HO.out] at hA3 ⊢; have HA3 := Lib.hid hA3; have HB3 := Lib.hid (((Below.refl w.heap.size w).alloc (Nat.le_refl _) (.cells #[.int .i64 a, .int .i64 b, .int .i64 c, .int .i64 d, .int .i64 e] 32)).trans (hb3.mono (by simp))); clear hf3 hb3 hA3 hg3)
    | (go_at_call 37; refine (mustB_any _ _).mono ?_; rintro e' w4 ⟨rfl, rfl⟩)
    | (go_at_call 36
       refine (put_any (i := 0) (by rw [HB3.out.cell (p := ⟨p, q, none⟩) hp0]; exact HP.out) (HR.out.kept (HB3.out.block g hg)) HN.out hi HA3.out).mono ?_
       rintro e' w5 ⟨rfl, hR5, hG5⟩
       have HF := Lib.hid (And.intro hR5 ((Grew.of_below HB3.out).trans hG5))
       clear hR5 hG5))
  go_end0
  exact ⟨rfl, by rw [HW.out]; exact HF.out.1, HF.out.2⟩

theorem lay_bytes : ∀ (cs L : List Int) (off : Nat), (∀ z ∈ L, 0 ≤ z ∧ z ≤ 255) → (∀ z ∈ cs, 0 ≤ z ∧ z ≤ 255) → ∀ z ∈ lay L off cs, 0 ≤ z ∧ z ≤ 255
  | [], _, _, h, _ => h
  | c :: r, L, off, h, hc => lay_bytes r _ _ (fun z hz => by
    rcases List.mem_or_eq_of_mem_set hz with hz | rfl
    · exact h z hz
    · exact hc z (by simp)) (fun z hz => hc z (List.mem_cons_of_mem _ hz))

/-- Bytes are copied into a part of a block. -/
theorem copy_blk {w : World} {g i d len cap m c : Nat} {L : List (List Int)} {ad : Addr} {zs : List Int} (hR : Rw w g L) (hi : i < L.length) (hd : d + len ≤ 64) (hB : Bts w (some ad) m zs) (hm : m ≤ len) (ty : TypeId) :
    (Builtin.copy_ #[62, 62] ty #[.slice (some ⟨g, i * 64 + d, none⟩) len cap, .slice (some ad) m c]).run Tryz.prog w = .ok (.int .i64 m) (w.setCells g (i * 64 + d) (bys zs)) ∧ Rw (w.setCells g (i * 64 + d) (bys zs)) g (L.set i (lay (L.getD i []) d zs)) := by
  have hl : (bys zs).length = m := by rw [bys_length, hB.1]
  have hfl := flatten_len hR.1
  have hc := hR.1.at hi
  have hr := run_copy_cells (P := Tryz.prog) w 62 62 ty 5 g (i * 64 + d) len cap ad m c (bys zs) Tryz.underlying62 size5 (by rw [hl]; exact (Nat.min_eq_left hm).symm) (bts_news hB rfl)
      (fun j hj => by rw [hR.2.1 (i * 64 + d + j) (by omega)]; rfl) (fun j _ => hR.2.2 _) (bys_one zs)
  rw [hl] at hr
  refine ⟨hr, ?_⟩
  have hX : (lay (L.getD i []) d zs).length = 64 ∧ ∀ z ∈ lay (L.getD i []) d zs, 0 ≤ z ∧ z ≤ 255 := ⟨by rw [lay_length, hc.1], lay_bytes _ _ _ hc.2 hB.2.2.1⟩
  have hA := hR.1.set (i := i) hX
  refine ⟨hA, fun j hj => ?_, fun j => by rw [frozen_setCells]; exact hR.2.2 j⟩
  rw [flatten_len hA, List.length_set] at hj
  rw [setCells_cell g (bys zs) (i * 64 + d) w j (fun k h1 h2 => by rw [hR.2.1 k (by rw [hl] at h2; omega)]; rfl), hl]
  obtain ⟨q, r, h64, rfl⟩ : ∃ q r, r < 64 ∧ j = q * 64 + r := ⟨j / 64, j % 64, by omega, by omega⟩
  rw [flatten_at hA q r h64]
  by_cases e : q = i
  · subst e
    have e1 : (L.set q (lay (L.getD q []) d zs)).getD q [] = lay (L.getD q []) d zs := by simp [List.getD, hi]
    rw [e1, lay_get _ _ _ _ (by rw [hc.1, hB.1]; omega), hB.1]
    by_cases h2 : d ≤ r ∧ r < d + m
    · rw [if_pos (by omega), if_pos h2, show q * 64 + r - (q * 64 + d) = r - d by omega, bys_at (by rw [hB.1]; omega)]
    · rw [if_neg (by omega), if_neg h2, hR.2.1 (q * 64 + r) (by omega), flatten_at hR.1 q r h64]
  · have e1 : (L.set i (lay (L.getD i []) d zs)).getD q [] = L.getD q [] := by simp [List.getD, List.getElem?_set, Ne.symm e]
    rw [e1, if_neg (by omega), hR.2.1 (q * 64 + r) (by omega), flatten_at hR.1 q r h64]

theorem node32_length (n : PNode) (h : (node28 n).length = 28) : (node32 n).length = 32 := by
  unfold node32
  rw [List.length_append, h, leB_length]

set_option maxRecDepth 100000 in
set_option maxHeartbeats 1600000 in
theorem setNode_any {w : World} {p q g n cap : Nat} {L : List (List Int)} (k : Nat) (x : PNode) {xo : Option Addr} {m xc : Nat} (hs : x.sound = true) (hsm : x.small) (hX : XIs w xo m x.x) (hcap : m ≤ xc ∧ xc ≤ 9223372036854775807) (h32 : (node32 x).length = 32 ∧ ∀ z ∈ node32 x, 0 ≤ z ∧ z ≤ 255)
    (hp : w.cell? ⟨p, q, none⟩ = some (.slice (some ⟨g, 0, none⟩) n cap)) (hR : Rw w g L) (hn : L.length = n) (hi : 18 < n) (hk : k < 32) :
    Calls Tryz.prog 44 #[.pointer (some ⟨p, q, none⟩), .int .i64 k, x.val (.slice xo m xc)] w fun e w' => e = .returned (.tuple #[]) ∧ Rw w' g (withNode L k x) ∧ Grew (fun k => k = g) (fun k => k = g) w w' := by
  have hp0 := World.block_lt_of_cell? _ _ hp
  have hg := hR.lt (by omega)
  obtain ⟨O, hO⟩ : ∃ O, node32 x = O := ⟨_, rfl⟩
  rw [hO] at h32
  have HE : Hid (∀ W, Below w.heap.size w W → Calls Tryz.prog 76 #[x.val (.slice xo m xc)] W (Handed W.heap.size W O 0)) := Lib.hid (fun W hW => by
    have h := nenc_any x W hsm (hX.later hW) hcap
    unfold nodeOut nodeErr at h
    rw [hs, if_pos rfl, if_pos rfl, hO] at h
    exact h)
  have HH : Hid (∀ W, Below w.heap.size w W → Calls Tryz.prog 95 #[.pointer (some ⟨p, q, none⟩), .int .i64 k] W fun e w' => e = .returned (.slice (some ⟨g, (3 + k / 2) * 64 + k % 2 * 32, none⟩) 32 (64 - k % 2 * 32)) ∧ W = w') := Lib.hid (fun W hW => half_any k (by rw [hW.cell (p := ⟨p, q, none⟩) hp0]; exact hp) hi hk)
  have HWN : Hid (withNode L k x = L.set (3 + k / 2) (lay (L.getD (3 + k / 2) []) (k % 2 * 32) O)) := Lib.hid (by unfold withNode; rw [hO])
  have HO0 : Hid (O ≠ []) := Lib.hid (fun h => by rw [h] at h32; cases h32.1)
  have HO32 := Lib.hid h32.1
  have HOB := Lib.hid h32.2
  have HR := Lib.hid hR
  have HN := Lib.hid hn
  have HK := Lib.hid hk
  clear hs hsm hX hcap hO h32 hp hR hn
  obtain ⟨k0, f, l, z, d0, d1, d2, d3, s, t, xx, c⟩ := x
  unfold PNode.val at HE ⊢
  dsimp only at HE ⊢
  have HROW : Hid (∀ W, Below (w.alloc (.cells #[.int .i64 k0, .int .i64 f, .int .i64 l, .int .i64 z, .int .i64 d0, .int .i64 d1, .int .i64 d2, .int .i64 d3, .int .i64 s, .int .i64 t, .slice xo m xc, .int .i64 c] 49)).heap.size (w.alloc (.cells #[.int .i64 k0, .int .i64 f, .int .i64 l, .int .i64 z, .int .i64 d0, .int .i64 d1, .int .i64 d2, .int .i64 d3, .int .i64 s, .int .i64 t, .slice xo m xc, .int .i64 c] 49)) W → W.rangeAt w.heap.size 0 [.int .i64 k0, .int .i64 f, .int .i64 l, .int .i64 z, .int .i64 d0, .int .i64 d1, .int .i64 d2, .int .i64 d3, .int .i64 s, .int .i64 t, .slice xo m xc, .int .i64 c]) := Lib.hid (fun W hW j v hj => by
    rw [hW.cell (p := ⟨w.heap.size, 0 + j, none⟩) (by simp), Nat.zero_add, World.cell?_alloc_new]
    simpa using hj)
  have HB1 : Hid (Below w.heap.size w (w.alloc (.cells #[.int .i64 k0, .int .i64 f, .int .i64 l, .int .i64 z, .int .i64 d0, .int .i64 d1, .int .i64 d2, .int .i64 d3, .int .i64 s, .int .i64 t, .slice xo m xc, .int .i64 c] 49))) := Lib.hid ((Below.refl _ _).alloc (Nat.le_refl _) _)
  go_enter Tryz.func44, Tryz.ntmps44
  go_wp2_with fail
  refine wp_region_held_drew (S := fun W => W.rangeAt w.heap.size 0 [.int .i64 k0, .int .i64 f, .int .i64 l, .int .i64 z, .int .i64 d0, .int .i64 d1, .int .i64 d2, .int .i64 d3, .int .i64 s, .int .i64 t, .slice xo m xc, .int .i64 c]) (by kernel_rfl) (HROW.out _ (Below.refl _ _).drew) (fun hHeld => ?_)
  refine wpAnyH_take (i := 0) (oi := ⟨some 6, _, _, _, _, _⟩) (v := .pointer (some ⟨p, q, none⟩)) rfl (by kernel_rfl) (by kernel_rfl) (by kernel_rfl) (fun _ _ _ h => h) (Or.inl ⟨by kernel_rfl, fun w _ => rfl⟩) (by assumption) ?_
  try simp only [Act.put, List.setIfInBounds_toArray, List.set_cons_zero, List.set_cons_succ]
  refine wpAnyH_take (i := 1) (oi := ⟨some 7, _, _, _, _, _⟩) (v := .int .i64 k) rfl (by kernel_rfl) (by kernel_rfl) (by kernel_rfl) (fun _ _ _ h => h) (Or.inl ⟨by kernel_rfl, fun w _ => rfl⟩) (by assumption) ?_
  try simp only [Act.put, List.setIfInBounds_toArray, List.set_cons_zero, List.set_cons_succ]
  refine wpAnyH_take (i := 3) (oi := { dst := some 9, op := .load 49 (.tmp 5), type := 49, pos := "state.go:97", after := #[], guard := none }) rfl (by kernel_rfl) (by kernel_rfl) (by kernel_rfl) (fun _ _ _ h => h) (yieldsIf_load_mid (by rfl) _ _ rfl _ _ rfl _ _ (fun W h => h) Tryz.underlying49 rfl (by kernel_rfl)) (by assumption) ?_
  try simp only [Act.put, List.setIfInBounds_toArray, List.set_cons_zero, List.set_cons_succ]
  refine wpAnyH_ready (rs := [2]) (by kernel_rfl) (by simp) ?_
  refine AllReadyH.cons (o := ⟨some 8, _, _, _, _, _⟩) rfl (fun K hK => ?_) AllReadyH.nil
  go_simp
  go_at_call 95
  refine (HH.out _ HB1.out.drew).mono ?_
  rintro e w2 ⟨rfl, rfl⟩
  refine hK.out _ _ ?_ (fun hHeld1 => ?_)
  · exact (HROW.out _ (Below.refl _ _).drew)
  clear hK K
  try simp only [Act.put, List.setIfInBounds_toArray, List.set_cons_zero, List.set_cons_succ]
  refine wpAnyH_ready (rs := [4]) (by kernel_rfl) (by simp) ?_
  refine AllReadyH.cons (o := ⟨some 10, _, _, _, _, _⟩) rfl (fun K hK => ?_) AllReadyH.nil
  go_simp
  go_at_call 76
  refine (HE.out _ HB1.out.drew).mono ?_
  rintro e w3 ⟨v3, rfl, hf3, hb3⟩
  obtain ⟨g3, o3, c3, rfl, hA3, hg3⟩ := fresh_slice hf3 HO0.out
  rw [HO32.out] at hA3 ⊢
  have HA3 := Lib.hid hA3
  have HB3 := Lib.hid ((Below.refl _ _).drew.trans hb3)
  have HB03 := Lib.hid (HB1.out.trans (HB3.out.mono (by simp)))
  have HC5 := copy_blk (i := 3 + k / 2) (d := k % 2 * 32) (len := 32) (cap := 64 - k % 2 * 32) (c := c3) (HR.out.kept (HB03.out.block g hg)) (by rw [HN.out]; have := HK.out; omega) (by omega) HA3.out.1 (by decide) 3
  have HC5 := Lib.hid HC5
  clear hf3 hb3 hA3 hg3
  refine hK.out _ _ ?_ (fun hHeld2 => ?_)
  · exact (HROW.out _ HB3.out)
  clear hK K
  try simp only [Act.put, List.setIfInBounds_toArray, List.set_cons_zero, List.set_cons_succ]
  refine wpAnyH_take (i := 5) (oi := ⟨some 11, _, _, _, _, _⟩) (v := .slice (some ⟨g3, o3, none⟩) 32 c3) rfl (by kernel_rfl) (by kernel_rfl) (by kernel_rfl) (fun _ _ _ h => h) (Or.inl ⟨by kernel_rfl, by intro w _; go_simp; (try omega)⟩) (by assumption) ?_
  try simp only [Act.put, List.setIfInBounds_toArray, List.set_cons_zero, List.set_cons_succ]
  refine wpAnyH_take (i := 6) (oi := ⟨some 12, _, _, _, _, _⟩) (v := .int .i64 0) rfl (by kernel_rfl) (by kernel_rfl) (by kernel_rfl) (fun _ _ _ h => h) (Or.inl ⟨by kernel_rfl, by intro w _; go_simp; (try omega)⟩) (by assumption) ?_
  try simp only [Act.put, List.setIfInBounds_toArray, List.set_cons_zero, List.set_cons_succ]
  refine wpAnyH_ready (rs := [7]) (by kernel_rfl) (by simp) ?_
  refine AllReadyH.cons (o := ⟨some 13, _, _, _, _, _⟩) rfl (fun K hK => ?_) AllReadyH.nil
  go_simp
  go_at_call 37
  refine (mustB_any _ _).mono ?_
  rintro e w4 ⟨rfl, rfl⟩
  refine hK.out _ _ ?_ (fun hHeld3 => ?_)
  · exact (HROW.out _ HB3.out)
  clear hK K
  try simp only [Act.put, List.setIfInBounds_toArray, List.set_cons_zero, List.set_cons_succ]
  refine wpAnyH_ready (rs := [8]) (by kernel_rfl) (by simp) ?_
  refine AllReadyH.cons (o := ⟨some 14, _, _, _, _, _⟩) rfl (fun K hK => ?_) AllReadyH.nil
  go_simp
  refine hK.out _ _ ?_ (fun hHeld4 => ?_)
  · exact (fun j v hj => by rw [cell_of_heap (p := ⟨w.heap.size, 0 + j, none⟩) (heap_setCells _ _ _ _ _ (by show w.heap.size ≠ g; omega))]; exact HROW.out _ HB3.out j v hj)
  clear hK K
  try simp only [Act.put, List.setIfInBounds_toArray, List.set_cons_zero, List.set_cons_succ]
  refine wpAnyH_done (by kernel_rfl) ?_ _
  go_wp2_with fail
  go_end0
  refine ⟨rfl, ?_, ?_⟩
  · rw [HWN.out]
    exact HC5.out.2
  · exact (Grew.of_below HB03.out).trans (Grew.setCells (fun k => k = g) rfl _ _ _)
end Go.Proofs.YthklefelkdhblaaGreatDoor


namespace Go.Proofs.YthklefelkdhblaaGreatDoor
open Go.RowKit
set_option linter.unusedVariables false
set_option linter.unusedSimpArgs false

/-- An image: its blocks, those that lie there, those that were settled. -/
structure Img where
  bl : List (List Int)
  ly : List (List Int)
  st : List (List Int)

/-- An image in memory: its own variable in block p, its rows in gb, gl, gs. -/
structure ImgAt (w : World) (p gb gl gs cb cl cs : Nat) (I : Img) : Prop where
  c0 : w.cell? ⟨p, 0, none⟩ = some (.slice (some ⟨gb, 0, none⟩) I.bl.length cb)
  c1 : w.cell? ⟨p, 1, none⟩ = some (.slice (some ⟨gl, 0, none⟩) I.ly.length cl)
  c2 : w.cell? ⟨p, 2, none⟩ = some (.slice (some ⟨gs, 0, none⟩) I.st.length cs)
  fr : ∀ j, w.frozen? ⟨p, j, none⟩ = false
  rb : Rw w gb I.bl
  rl : Rw w gl I.ly
  rs : Rw w gs I.st
  n0 : 0 < I.bl.length ∧ I.bl.length ≤ 480
  nl : I.ly.length = I.bl.length
  ns : 0 < I.st.length ∧ I.st.length ≤ 480
  kb : I.bl.length ≤ cb
  kl : I.ly.length ≤ cl
  ks : I.st.length ≤ cs
  d1 : p ≠ gb
  d2 : p ≠ gl
  d3 : p ≠ gs
  d4 : gb ≠ gl
  d5 : gb ≠ gs
  d6 : gl ≠ gs

def FootI (p gb gl gs k : Nat) : Prop := k = p ∨ k = gb ∨ k = gl ∨ k = gs
def ImgI (w : World) (a : Addr) (F : Nat → Prop) (I : Img) : Prop := ∃ p gb gl gs cb cl cs, a = ⟨p, 0, none⟩ ∧ ImgAt w p gb gl gs cb cl cs I ∧ F = FootI p gb gl gs

theorem ImgAt.lt {w : World} {p gb gl gs cb cl cs : Nat} {I : Img} (h : ImgAt w p gb gl gs cb cl cs I) : p < w.heap.size ∧ gb < w.heap.size ∧ gl < w.heap.size ∧ gs < w.heap.size :=
  ⟨World.block_lt_of_cell? _ _ h.c0, h.rb.lt h.n0.1, h.rl.lt (by rw [h.nl]; exact h.n0.1), h.rs.lt h.ns.1⟩
theorem ImgAt.kept {w w' : World} {p gb gl gs cb cl cs : Nat} {I : Img} (h : ImgAt w p gb gl gs cb cl cs I) (hk : ∀ k, FootI p gb gl gs k → w'.heap[k]? = w.heap[k]?) : ImgAt w' p gb gl gs cb cl cs I := by
  have hp := hk p (Or.inl rfl)
  have hc : ∀ j, w'.cell? ⟨p, j, none⟩ = w.cell? ⟨p, j, none⟩ := fun j => cell_of_heap (p := ⟨p, j, none⟩) hp
  exact ⟨by rw [hc]; exact h.c0, by rw [hc]; exact h.c1, by rw [hc]; exact h.c2, fun j => by rw [frozen_of_heap (p := ⟨p, j, none⟩) hp]; exact h.fr j,
    h.rb.kept (hk gb (Or.inr (Or.inl rfl))), h.rl.kept (hk gl (Or.inr (Or.inr (Or.inl rfl)))), h.rs.kept (hk gs (Or.inr (Or.inr (Or.inr rfl)))), h.n0, h.nl, h.ns, h.kb, h.kl, h.ks, h.d1, h.d2, h.d3, h.d4, h.d5, h.d6⟩
theorem ImgI.lt {w : World} {a : Addr} {F : Nat → Prop} {I : Img} (h : ImgI w a F I) : ∀ k, F k → k < w.heap.size := by
  obtain ⟨p, gb, gl, gs, cb, cl, cs, rfl, h, rfl⟩ := h
  rintro k (rfl | rfl | rfl | rfl)
  · exact h.lt.1
  · exact h.lt.2.1
  · exact h.lt.2.2.1
  · exact h.lt.2.2.2
theorem ImgI.kept {w w' : World} {a : Addr} {F : Nat → Prop} {I : Img} (h : ImgI w a F I) (hk : ∀ k, F k → w'.heap[k]? = w.heap[k]?) : ImgI w' a F I := by
  obtain ⟨p, gb, gl, gs, cb, cl, cs, rfl, h, rfl⟩ := h
  exact ⟨p, gb, gl, gs, cb, cl, cs, rfl, h.kept hk, rfl⟩
theorem ImgI.later {w w' : World} {a : Addr} {F : Nat → Prop} {I : Img} (h : ImgI w a F I) (hb : Below w.heap.size w w') : ImgI w' a F I := h.kept (fun k hk => hb.block k (h.lt k hk))
/-- Behind a call that turns other blocks alone. -/
theorem ImgI.grew {w w' : World} {a : Addr} {F G G' : Nat → Prop} {I : Img} (h : ImgI w a F I) (hg : Grew G G' w w') (hd : ∀ k, F k → ¬ G k) : ImgI w' a F I := h.kept (fun k hk => hg.block (h.lt k hk) (hd k hk))
/-- Behind a call that sets its blocks alone. -/
theorem ImgAt.setBl {w w' : World} {p gb gl gs cb cl cs : Nat} {I : Img} {L : List (List Int)} (h : ImgAt w p gb gl gs cb cl cs I) (hR : Rw w' gb L) (hl : L.length = I.bl.length) (hg : Grew (fun k => k = gb) (fun k => k = gb) w w') : ImgAt w' p gb gl gs cb cl cs { I with bl := L } := by
  have hp := hg.block h.lt.1 h.d1
  have hc : ∀ j, w'.cell? ⟨p, j, none⟩ = w.cell? ⟨p, j, none⟩ := fun j => cell_of_heap (p := ⟨p, j, none⟩) hp
  refine ⟨by rw [hc]; show _ = some (Value.slice _ L.length _); rw [hl]; exact h.c0, by rw [hc]; exact h.c1, by rw [hc]; exact h.c2, fun j => by rw [frozen_of_heap (p := ⟨p, j, none⟩) hp]; exact h.fr j,
    hR, h.rl.kept (hg.block h.lt.2.2.1 (Ne.symm h.d4)), h.rs.kept (hg.block h.lt.2.2.2 (Ne.symm h.d5)), by show 0 < L.length ∧ L.length ≤ 480; rw [hl]; exact h.n0, by show I.ly.length = L.length; rw [hl]; exact h.nl, h.ns, by show L.length ≤ cb; rw [hl]; exact h.kb, h.kl, h.ks, h.d1, h.d2, h.d3, h.d4, h.d5, h.d6⟩
theorem Grew.foot {w w' : World} {p gb gl gs : Nat} (hg : Grew (fun k => k = gb) (fun k => k = gb) w w') : Grew (FootI p gb gl gs) (FootI p gb gl gs) w w' :=
  ⟨hg.1, hg.2.1, hg.2.2.1, hg.2.2.2.1, fun k hk hF => hg.2.2.2.2.1 k hk (fun e => hF (Or.inr (Or.inl e))), fun k hk => Or.inl hk⟩

theorem elemBlk : ElemR 76 97 (.agg zeroB) 64 64 := ⟨Tryz.underlying76, by kernel_rfl, rfl, by decide, by decide⟩

/-- A clone of a row of blocks. -/
def Cloned (w : World) (L : List (List Int)) (e : Ending) (w' : World) : Prop :=
  ∃ g cap, e = .returned (.slice (some ⟨g, 0, none⟩) L.length cap) ∧ L.length ≤ cap ∧ Rw w' g L ∧ w.heap.size ≤ g ∧ g < w'.heap.size ∧ Below w.heap.size w w'

set_option maxHeartbeats 800000 in
theorem cloneB_any (g n cap : Nat) (L : List (List Int)) (w : World) (hR : Rw w g L) (hn : L.length = n) (h0 : 0 < n) (h1 : n ≤ 480) :
    Calls Tryz.prog 82 #[.slice (some ⟨g, 0, none⟩) n cap] w (Cloned w L) := by
  have HL := Lib.hid hn
  have HA := Lib.hid hR.1
  have HO : Hid ((w.alloc (.cells #[] 97)).ownsRow w.heap.size 97 64 (.slice (some ⟨w.heap.size, 0, none⟩) 0 0) 0 []) := Lib.hid (World.ownsRow_made (base := w.heap.size) (e := 97) (size := 64) w #[] 0 (Nat.le_refl _) (by decide) rfl)
  have HB : Hid (Below w.heap.size w (w.alloc (.cells #[] 97))) := Lib.hid ((Below.refl _ _).alloc (Nat.le_refl _) _)
  have hnil := fun (w : World) => Lib.run_eql_slice_nil (P := Tryz.prog) w 76 97 (some ⟨g, 0, none⟩) n cap 0 0 Tryz.underlying76
  have HV2 : Hid ((flat L).length = n * 64) := Lib.hid (by rw [flat_length hR.1, hn])
  have HV3 : Hid (∀ u ∈ flat L, u.oneCell' = true) := Lib.hid (bys_one _)
  have HV4 : Hid (∀ j u, (flat L)[j]? = some u → (w.alloc (.cells #[] 97)).cell? ((⟨g, 0, none⟩ : Addr).add j) = some u) := Lib.hid (fun j u hj => by
    rw [Go.WideShapes.add_plain, Nat.zero_add, HB.out.cell (p := ⟨g, j, none⟩) (hR.lt (by omega))]
    obtain ⟨hj2, rfl⟩ := bys_get hj
    exact hR.2.1 j hj2)
  clear hR hn
  go_enter Tryz.func82, Tryz.ntmps82
  go_wp2_with (refine wp_append_r elemBlk rfl (.tmp 5) (.tmp 6) rfl w.heap.size 0 _ [] rfl HO.out ⟨g, 0, none⟩ n cap (flat L) HV2.out rfl HV4.out HV3.out (by omega) (by simp) ?_; intro v1 w1 hown1 hg1 hb1; have HO1 := Lib.hid hown1; have HB1 := Lib.hid (HB.out.trans hb1); clear hown1 hg1 hb1)
  go_ret
  have ho := HO1.out
  rw [Nat.zero_add, List.nil_append] at ho
  obtain ⟨g1, c1, rfl, hc, hl, hg, hlt, hr⟩ := rw_of_owns ho HA.out h0
  exact ⟨g1, c1, by rw [HL.out]; rfl, by rw [HL.out]; exact hc, hr, hg, hlt, HB1.out⟩

theorem none_of {w : World} {p gb n cb : Nat} (h0 : w.cell? ⟨p, 0, none⟩ = some (.slice (some ⟨gb, 0, none⟩) n cb)) (h1 : 0 < n) : Calls Tryz.prog 46 #[.pointer (some ⟨p, 0, none⟩)] w fun e w' => e = .returned (.bool false) ∧ w = w' := by
  have hn : ((n : Int) == 0) = false := by simp; omega
  go_enter Tryz.func46, Tryz.ntmps46
  go_wp2_with fail
  go_ret
  exact ⟨rfl, rfl⟩
theorem none_at {w : World} {p gb gl gs cb cl cs : Nat} {I : Img} (h : ImgAt w p gb gl gs cb cl cs I) : Calls Tryz.prog 46 #[.pointer (some ⟨p, 0, none⟩)] w fun e w' => e = .returned (.bool false) ∧ w = w' := none_of h.c0 h.n0.1
theorem none_nil (w : World) : Calls Tryz.prog 46 #[.pointer none] w fun e w' => e = .returned (.bool true) ∧ w = w' := by
  go_enter Tryz.func46, Tryz.ntmps46
  go_wp2_with fail
  go_ret
  exact ⟨rfl, rfl⟩

/-- Two rows are set anew in an image. -/
theorem two_rows {w w2 w3 : World} {p g2 g3 : Nat} {i k : Nat} {v2 v3 : Value} (hp : p < w.heap.size) (hf : ∀ j, w.frozen? ⟨p, j, none⟩ = false) (hb2 : Below w.heap.size w w2) (hb3 : Below w2.heap.size (w2.setCell ⟨p, i, none⟩ v2) w3) (hl2 : w.heap.size ≤ g2) (hg2 : g2 < w2.heap.size) (hl3 : w2.heap.size ≤ g3) :
    (∀ k', k' < w.heap.size → k' ≠ p → (w3.setCell ⟨p, k, none⟩ v3).heap[k']? = w.heap[k']?) ∧ (w3.setCell ⟨p, k, none⟩ v3).heap[g2]? = w2.heap[g2]? ∧ (w3.setCell ⟨p, k, none⟩ v3).heap[g3]? = w3.heap[g3]? ∧ (∀ j, (w3.setCell ⟨p, k, none⟩ v3).frozen? ⟨p, j, none⟩ = false) ∧
      (∀ j, j ≠ k → j ≠ i → (w3.setCell ⟨p, k, none⟩ v3).cell? ⟨p, j, none⟩ = w.cell? ⟨p, j, none⟩) ∧ ((w.cell? ⟨p, i, none⟩).isSome → i ≠ k → (w3.setCell ⟨p, k, none⟩ v3).cell? ⟨p, i, none⟩ = some v2) ∧ ((w.cell? ⟨p, k, none⟩).isSome → i ≠ k → (w3.setCell ⟨p, k, none⟩ v3).cell? ⟨p, k, none⟩ = some v3) := by
  have hpw2 : p < w2.heap.size := Nat.lt_of_lt_of_le hp hb2.size
  have hcell3 : ∀ j, w3.cell? ⟨p, j, none⟩ = (w2.setCell ⟨p, i, none⟩ v2).cell? ⟨p, j, none⟩ := fun j => hb3.cell (p := ⟨p, j, none⟩) hpw2
  have hcell2 : ∀ j, w2.cell? ⟨p, j, none⟩ = w.cell? ⟨p, j, none⟩ := fun j => hb2.cell (p := ⟨p, j, none⟩) hp
  refine ⟨fun k' hk hne => ?_, ?_, ?_, fun j => ?_, fun j h1 h2 => ?_, fun hs hne => ?_, fun hs hne => ?_⟩
  · rw [Below.heap_setCell _ _ _ _ hne, hb3.block k' (by have := hb2.size; omega), Below.heap_setCell _ _ _ _ hne, hb2.block k' hk]
  · rw [Below.heap_setCell _ _ _ _ (show g2 ≠ p by omega), hb3.block g2 hg2, Below.heap_setCell _ _ _ _ (show g2 ≠ p by omega)]
  · rw [Below.heap_setCell _ _ _ _ (show g3 ≠ p by omega)]
  · rw [World.frozen?_setCell, hb3.frozen (p := ⟨p, j, none⟩) hpw2, World.frozen?_setCell, hb2.frozen (p := ⟨p, j, none⟩) hp]
    exact hf j
  · rw [World.cell?_setCell_other (h := by intro e; simp at e <;> omega), hcell3, World.cell?_setCell_other (h := by intro e; simp at e <;> omega), hcell2]
  · obtain ⟨u, hu⟩ := Option.isSome_iff_exists.1 hs
    rw [World.cell?_setCell_other (h := by intro e; simp at e <;> omega), hcell3]
    exact World.cell?_setCell_same _ _ _ (by rw [hcell2]; exact hu)
  · obtain ⟨u, hu⟩ := Option.isSome_iff_exists.1 hs
    exact World.cell?_setCell_same _ _ _ (by rw [hcell3, World.cell?_setCell_other (h := by intro e; simp at e <;> omega), hcell2]; exact hu)

theorem two_grew {w w2 w3 : World} {p : Nat} {F' : Nat → Prop} {i k : Nat} {v2 v3 : Value} (hb2 : Below w.heap.size w w2) (hb3 : Below w2.heap.size (w2.setCell ⟨p, i, none⟩ v2) w3) (hF : ∀ k', F' k' → k' = p ∨ w.heap.size ≤ k') : Grew (fun k => k = p) F' w (w3.setCell ⟨p, k, none⟩ v3) := by
  have g1 : Grew (fun k => k = p) (fun k => k = p) w (w2.setCell ⟨p, i, none⟩ v2) := (Grew.of_below hb2).trans (Grew.setCell (fun k => k = p) _ (p := ⟨p, i, none⟩) rfl _)
  have g2 : Grew (fun k => k = p) (fun k => k = p) w (w3.setCell ⟨p, k, none⟩ v3) := (g1.trans (Grew.of_below (hb3.mono (by simp [World.setCell])))).trans (Grew.setCell (fun k => k = p) _ (p := ⟨p, k, none⟩) rfl _)
  exact ⟨g2.1, g2.2.1, g2.2.2.1, g2.2.2.2.1, g2.2.2.2.2.1, hF⟩

/-- An image's variable with its blocks, whatever else it names. -/
structure Bare (w : World) (p gb cb : Nat) (L : List (List Int)) : Prop where
  c0 : w.cell? ⟨p, 0, none⟩ = some (.slice (some ⟨gb, 0, none⟩) L.length cb)
  c1 : ∃ v, w.cell? ⟨p, 1, none⟩ = some v
  c2 : ∃ v, w.cell? ⟨p, 2, none⟩ = some v
  fr : ∀ j, w.frozen? ⟨p, j, none⟩ = false
  rb : Rw w gb L
  n0 : 0 < L.length ∧ L.length ≤ 480
  kb : L.length ≤ cb
  d1 : p ≠ gb

set_option maxRecDepth 100000 in
set_option maxHeartbeats 1600000 in
theorem settle_bare {w : World} {p gb cb : Nat} {L : List (List Int)} (h : Bare w p gb cb L) :
    Calls Tryz.prog 28 #[.pointer (some ⟨p, 0, none⟩)] w fun e w' => ∃ gl' gs' cl' cs', e = .returned (.tuple #[]) ∧ ImgAt w' p gb gl' gs' cb cl' cs' ⟨L, L, L⟩ ∧ Grew (fun k => k = p) (fun k => k = p ∨ k = gl' ∨ k = gs') w w' := by
  have cN := none_of h.c0 h.n0.1
  have c0 := h.c0
  obtain ⟨v1, c1⟩ := h.c1
  obtain ⟨v2, c2⟩ := h.c2
  have f := h.fr
  have HI := Lib.hid h
  have hl := World.block_lt_of_cell? _ _ h.c0
  have hgb := h.rb.lt h.n0.1
  have HC1 := Lib.hid c1
  have HC2 := Lib.hid c2
  obtain ⟨n, hn⟩ : ∃ n, L.length = n := ⟨_, rfl⟩
  rw [hn] at c0
  have HN := Lib.hid hn
  have HC : Hid (∀ W, Rw W gb L → Calls Tryz.prog 82 #[.slice (some ⟨gb, 0, none⟩) n cb] W (Cloned W L)) := Lib.hid (fun W hR => cloneB_any gb n cb L W hR hn (by rw [← hn]; exact h.n0.1) (by rw [← hn]; exact h.n0.2))
  clear h hn
  go_enter Tryz.func28, Tryz.ntmps28
  go_wp2_with (first | (go_at_call 46; refine cN.mono ?_; rintro e w' ⟨rfl, rfl⟩))
  refine (HC.out w HI.out.rb).mono ?_
  rintro e w2 ⟨g2, c2', rfl, hc2, hr2, hg2, hl2, hb2⟩
  rw [HN.out]
  have q0 := cell_later hb2 c0
  have q1 := cell_later hb2 c1
  have q2 := cell_later hb2 c2
  have qf : ∀ j, w2.frozen? ⟨p, j, none⟩ = false := fun j => by rw [hb2.frozen (p := ⟨p, j, none⟩) hl]; exact f j
  have H2 := Lib.hid (And.intro hc2 (And.intro hr2 (And.intro hg2 (And.intro hl2 hb2))))
  clear hc2 hr2 hg2 hl2 hb2 c0 c1 c2 f cN
  go_wp2_with fail
  have hrW : Rw (w2.setCell ⟨p, 1, none⟩ (.slice (some ⟨g2, 0, none⟩) n c2')) gb L := HI.out.rb.kept (by rw [Below.heap_setCell _ _ _ _ (Ne.symm HI.out.d1)]; exact H2.out.2.2.2.2.block gb hgb)
  refine (HC.out _ hrW).mono ?_
  rintro e w3 ⟨g3, c3', rfl, hc3, hr3, hg3, hl3, hb3⟩
  rw [HN.out]
  have hsz : (w2.setCell ⟨p, 1, none⟩ (.slice (some ⟨g2, 0, none⟩) n c2')).heap.size = w2.heap.size := by simp [World.setCell]
  rw [hsz] at hg3 hb3
  have hpw2 : p < w2.heap.size := Nat.lt_of_lt_of_le hl H2.out.2.2.2.2.size
  have r2 : w3.cell? ⟨p, 2, none⟩ = some v2 := by
    rw [hb3.cell (p := ⟨p, 2, none⟩) hpw2, World.cell?_setCell_other (h := by intro e; simp at e)]
    exact q2
  have rf : ∀ j, w3.frozen? ⟨p, j, none⟩ = false := fun j => by rw [hb3.frozen (p := ⟨p, j, none⟩) hpw2, World.frozen?_setCell]; exact qf j
  have H3 := Lib.hid (And.intro hc3 (And.intro hr3 (And.intro hg3 (And.intro hl3 hb3))))
  clear hc3 hr3 hg3 hl3 hb3 q0 q1 q2 qf hrW hsz
  go_wp2_with fail
  go_end0
  obtain ⟨hc2, hr2, hg2, hl2, hb2⟩ := H2.out
  obtain ⟨hc3, hr3, hg3, hl3, hb3⟩ := H3.out
  have HH := HI.out
  obtain ⟨t1, t2, t3, t4, t5, t6, t7⟩ := two_rows (k := 2) (v3 := .slice (some ⟨g3, 0, none⟩) n c3') hl HH.fr hb2 hb3 hg2 hl2 hg3
  refine ⟨g2, g3, c2', c3', rfl, ⟨?_, ?_, ?_, t4, HH.rb.kept (t1 gb hgb (Ne.symm HH.d1)), hr2.kept t2, hr3.kept t3, HH.n0, rfl, HH.n0, HH.kb, hc2, hc3, HH.d1, by omega, by omega, by omega, by omega, by omega⟩, two_grew (p := p) hb2 hb3 (fun k' hk => ?_)⟩
  · rw [t5 0 (by decide) (by decide)]; exact HH.c0
  · rw [t6 (by rw [HC1.out]; rfl) (by decide)]; show some (Value.slice _ n _) = some (Value.slice _ L.length _); rw [HN.out]
  · rw [t7 (by rw [HC2.out]; rfl) (by decide)]; show some (Value.slice _ n _) = some (Value.slice _ L.length _); rw [HN.out]
  · rcases hk with e | e | e
    · exact Or.inl e
    · exact Or.inr (by omega)
    · exact Or.inr (by omega)

theorem ImgAt.bare {w : World} {p gb gl gs cb cl cs : Nat} {I : Img} (h : ImgAt w p gb gl gs cb cl cs I) : Bare w p gb cb I.bl := ⟨h.c0, ⟨_, h.c1⟩, ⟨_, h.c2⟩, h.fr, h.rb, h.n0, h.kb, h.d1⟩

set_option maxHeartbeats 1600000 in
theorem iof_any {w : World} {gb n cb : Nat} {L : List (List Int)} (hR : Rw w gb L) (hn : L.length = n) (h0 : 0 < n) (h1 : n ≤ 480) (hc : n ≤ cb) :
    Calls Tryz.prog 45 #[.slice (some ⟨gb, 0, none⟩) n cb] w fun e w' => ∃ a F', e = .returned (.pointer (some a)) ∧ ImgI w' a F' ⟨L, L, L⟩ ∧ (∀ k, F' k → k = gb ∨ w.heap.size ≤ k) ∧ Below w.heap.size w w' := by
  have hg := hR.lt (by omega)
  have HB : Hid (Bare (w.alloc (.cells #[.slice (some ⟨gb, 0, none⟩) n cb, .slice none 0 0, .slice none 0 0] 95)) w.heap.size gb cb L) := Lib.hid
    ⟨by simp [hn], ⟨.slice none 0 0, by simp⟩, ⟨.slice none 0 0, by simp⟩, fun j => by rw [World.frozen?_alloc_mark]; simp, hR.later (by omega) ((Below.refl _ _).alloc (Nat.le_refl _) _), by omega, by omega, by omega⟩
  clear hR hn
  go_enter Tryz.func45, Tryz.ntmps45
  go_wp2_with (go_at_call 28; refine (settle_bare HB.out).mono ?_; rintro e w2 ⟨gl', gs', cl', cs', rfl, hI, hg2⟩; have H2 := Lib.hid (And.intro hI hg2); clear hI hg2)
  go_ret
  have hgr := H2.out.2
  refine ⟨⟨w.heap.size, 0, none⟩, FootI w.heap.size gb gl' gs', rfl, ⟨_, _, _, _, _, _, _, rfl, H2.out.1, rfl⟩, fun k hk => ?_, hgr.below ((Below.refl _ _).alloc (Nat.le_refl _) _) (by simp) (fun k e => by omega)⟩
  rcases hk with e | e | e | e
  · exact Or.inr (by omega)
  · exact Or.inl e
  · rcases hgr.2.2.2.2.2 k (Or.inr (Or.inl e)) with h3 | h3
    · exact Or.inr (by omega)
    · exact Or.inr (by simp at h3; omega)
  · rcases hgr.2.2.2.2.2 k (Or.inr (Or.inr e)) with h3 | h3
    · exact Or.inr (by omega)
    · exact Or.inr (by simp at h3; omega)

end Go.Proofs.YthklefelkdhblaaGreatDoor

