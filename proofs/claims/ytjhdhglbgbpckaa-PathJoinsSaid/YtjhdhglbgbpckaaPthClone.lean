/-
  Proved here: what the library's Clone and Join of texts answer, out of the shelf's contracts.
  The conditions stand at each theorem.
-/
import Derived.Test.YtjhdhglbgbpckaaPthStr
import Derived.Test.YtjhdhglbgbpckaaLays
import Derived.Shelf.Strconv.Clone
import Derived.Shelf.Strings.OnBuilder
namespace Go.Proofs.Ytjhdhglbgbpckaa
open Go.RowKit
set_option linter.unusedVariables false
set_option linter.unusedSimpArgs false

theorem liteClone_any (s : ByteArray) (w : World) (hs : s.size ≤ 140737488351232) : Calls Try.prog 35 #[.string s] w fun e w' => e = .returned (.string s) ∧ Below w.heap.size w w' :=
  Any.stringslite_Clone cloneL s w (by omega)
theorem Clone_any (s : ByteArray) (w : World) (hs : s.size ≤ 140737488351232) : Calls Try.prog 27 #[.string s] w fun e w' => e = .returned (.string s) ∧ Below w.heap.size w w' := by
  have c := liteClone_any s w hs
  go_enter Try.func27, Try.ntmps27
  go_wp2_with (go_at_call 35; refine c.mono ?_; rintro e w' ⟨rfl, hb⟩; have HB := Lib.hid hb; clear hb)
  go_ret
  exact ⟨rfl, HB.out⟩

theorem joinX : Builder.Extra Try.prog joinL_ren := {
  sizeBuilder := by kernel_rfl
  liesBuilder := by kernel_rfl
  t5 := Try.underlying5
  a5 := Try.isAgg5
  z5 := Try.sizeOf5
  v5 := Try.zeroValue5
  infoByte := by kernel_rfl
  cellsByte := by kernel_rfl
  sizeByte := by kernel_rfl
  neB5 := by decide }

theorem bytesOf_data (l : List UInt8) : bytesOf ⟨l.toArray⟩ = l.map fun b => (b.toNat : Int) := rfl
/-- Names joined by the library, behind a stroke. -/
theorem join_lib : ∀ (n : ByteArray) (r : List ByteArray), 47 :: (Lib.join ((n :: r).map (·.data.toList)) [47]).map (fun b : UInt8 => (b.toNat : Int)) = joinN ((n :: r).map bytesOf)
  | n, [] => by
    rw [List.map_cons, List.map_nil, Lib.join_one, List.map_cons, List.map_nil, join_cons]
    show _ = 47 :: (bytesOf n ++ [])
    rw [List.append_nil]
    rfl
  | n, m :: r => by
    have ih := join_lib m r
    rw [List.map_cons (f := bytesOf), join_cons, ← ih, List.map_cons, List.map_cons]
    have : Lib.join (n.data.toList :: m.data.toList :: r.map (·.data.toList)) [47] = n.data.toList ++ 47 :: Lib.join (m.data.toList :: r.map (·.data.toList)) [47] := by
      simp [Lib.join, List.intercalate]
    rw [this, List.map_append, List.map_cons]
    rfl
theorem join_size : ∀ (xs : List ByteArray), (∀ x ∈ xs, x.size ≤ 17) → (Lib.join (xs.map (·.data.toList)) [47]).length ≤ 18 * xs.length
  | [], _ => by decide
  | n :: r, h => by
    have e := congrArg List.length (join_lib n r)
    rw [List.length_cons, List.length_map, join_length] at e
    have : ∀ l : List ByteArray, (∀ x ∈ l, x.size ≤ 17) → sizeN (l.map bytesOf) ≤ 18 * l.length := by
      intro l
      induction l with
      | nil => intro _; decide
      | cons y l ih =>
        intro hl
        have h1 := hl y (List.mem_cons_self ..)
        have h2 := ih fun x hx => hl x (List.mem_cons_of_mem _ hx)
        unfold sizeN at h2 ⊢
        rw [List.map_cons, List.map_cons, List.sum_cons, bytesOf_length, List.length_cons]
        omega
    have := this (n :: r) h
    omega

theorem strJoin_any {ao : Option Addr} {m cap : Nat} {ns : List ByteArray} (w : World) (hX : SIs w ao m ns) (hn : m ≤ 16) (hcap : m ≤ cap) (h17 : ∀ s ∈ ns, s.size ≤ 17) :
    Calls Try.prog 23 #[.slice ao m cap, .string ⟨#[47]⟩] w fun e w' => (∃ s, e = .returned (.string s) ∧ 47 :: bytesOf s = (if ns = [] then [47] else joinN (ns.map bytesOf)) ∧ s.size ≤ 288) ∧ Below w.heap.size w w' := by
  have hl := hX.len
  subst hl
  cases ns with
  | nil =>
    refine (Any.strings_Join_none joinL joinX ao cap ⟨#[47]⟩ w).mono ?_
    rintro e w' ⟨rfl, rfl⟩
    exact ⟨⟨_, rfl, rfl, by decide⟩, Below.refl _ _⟩
  | cons n r =>
    rcases hX.2.2 with h0 | ⟨b, off, rfl, hc⟩
    · rw [List.length_cons] at h0; omega
    · have hz := join_size (n :: r) h17
      refine (Any.strings_Join joinL joinX b off cap (n :: r) ⟨#[47]⟩ w (fun j x hx => hc j _ (strs_get hx)) (block_lt_of_cell (hc 0 _ rfl)) (by omega) hcap (by show (Lib.join ((n :: r).map (·.data.toList)) [47]).length ≤ _; omega)).mono ?_
      rintro e w' ⟨rfl, hb⟩
      refine ⟨⟨_, rfl, ?_, ?_⟩, hb⟩
      · rw [if_neg (by simp), ← join_lib, bytesOf_data]
      · show (Lib.join ((n :: r).map (·.data.toList)) [47]).toArray.size ≤ 288
        rw [List.size_toArray]
        omega

end Go.Proofs.Ytjhdhglbgbpckaa
