/-
  Proved here: a Super and a Head that came in, by value, opened.
  The conditions stand at each theorem.
-/
import Derived.Test.YtpfapkdenlfmbaaSup
namespace Go.Proofs.Ytpfapkdenlfmbaa
open Go.ChangeShapes Go.WideShapes Go.RowKit

theorem five_of {α : Type} {l : List α} (h : l.length = 5) : ∃ a b c d e, l = [a, b, c, d, e] := by
  match l, h with
  | [a, b, c, d, e], _ => exact ⟨a, b, c, d, e, rfl⟩
theorem two_of {α : Type} {l : List α} (h : l.length = 2) : ∃ a b, l = [a, b] := by
  match l, h with
  | [a, b], _ => exact ⟨a, b, rfl⟩

section
variable {H : Type} {enc : TypeId × Value → H} {W : World} {d : DataW H} {p : List MemPlace} {v : Value} {r : Reach} {b0 : Nat}

theorem open_sup (hv : Value.okWide Try.prog W r b0 23 v) (h : DataW.Trod enc Try.prog W 0 (fun _ => true) true 23 v d p) : ∃ s : PSup, v = s.val ∧ s.in64 := by
  obtain ⟨cs, rfl, hsz⟩ := okWide_struct Try.underlying23 hv
  obtain ⟨l⟩ := cs
  have h5 : Try.prog.cellsOf 23 = 5 := by kernel_rfl
  rw [h5] at hsz
  obtain ⟨v0, v1, v2, v3, v4, rfl⟩ := five_of (show l.length = 5 from hsz)
  obtain ⟨fuel, hf⟩ := h
  obtain ⟨xs, n, _, hx, _, hlen, hg⟩ := DataW.trod_struct Try.underlying23 hf
  obtain ⟨y0, y1, y2, y3, y4, rfl⟩ := five_of (show xs.length = 5 from hlen)
  have c0 : Try.prog.cellsOf 3 = 1 := by kernel_rfl
  have t0 : DataW.trod enc Try.prog W 0 (fun _ => true) true n 3 (([v0, v1, v2, v3, v4].drop 0).take (Try.prog.cellsOf 3)) = some y0 := hg 0 _ rfl
  have t1 : DataW.trod enc Try.prog W 0 (fun _ => true) true n 3 (([v0, v1, v2, v3, v4].drop 1).take (Try.prog.cellsOf 3)) = some y1 := hg 1 _ rfl
  have t2 : DataW.trod enc Try.prog W 0 (fun _ => true) true n 3 (([v0, v1, v2, v3, v4].drop 2).take (Try.prog.cellsOf 3)) = some y2 := hg 2 _ rfl
  have t3 : DataW.trod enc Try.prog W 0 (fun _ => true) true n 3 (([v0, v1, v2, v3, v4].drop 3).take (Try.prog.cellsOf 3)) = some y3 := hg 3 _ rfl
  have t4 : DataW.trod enc Try.prog W 0 (fun _ => true) true n 3 (([v0, v1, v2, v3, v4].drop 4).take (Try.prog.cellsOf 3)) = some y4 := hg 4 _ rfl
  rw [c0] at t0 t1 t2 t3 t4
  obtain ⟨z0, hv0, _, w0⟩ := DataW.trod_int Try.underlying3 t0
  obtain ⟨z1, hv1, _, w1⟩ := DataW.trod_int Try.underlying3 t1
  obtain ⟨z2, hv2, _, w2⟩ := DataW.trod_int Try.underlying3 t2
  obtain ⟨z3, hv3, _, w3⟩ := DataW.trod_int Try.underlying3 t3
  obtain ⟨z4, hv4, _, w4⟩ := DataW.trod_int Try.underlying3 t4
  obtain rfl : v0 = .int .i64 z0 := by simpa using hv0
  obtain rfl : v1 = .int .i64 z1 := by simpa using hv1
  obtain rfl : v2 = .int .i64 z2 := by simpa using hv2
  obtain rfl : v3 = .int .i64 z3 := by simpa using hv3
  obtain rfl : v4 = .int .i64 z4 := by simpa using hv4
  exact ⟨⟨z0, z1, z2, z3, z4⟩, rfl, wf_i64 w0, wf_i64 w1, wf_i64 w2, wf_i64 w3, wf_i64 w4⟩

theorem open_head (hv : Value.okWide Try.prog W r b0 25 v) (h : DataW.Trod enc Try.prog W 0 (fun _ => true) true 25 v d p) : ∃ s : PHead, v = s.val ∧ s.in64 := by
  obtain ⟨cs, rfl, hsz⟩ := okWide_struct Try.underlying25 hv
  obtain ⟨l⟩ := cs
  have h5 : Try.prog.cellsOf 25 = 2 := by kernel_rfl
  rw [h5] at hsz
  obtain ⟨v0, v1, rfl⟩ := two_of (show l.length = 2 from hsz)
  obtain ⟨fuel, hf⟩ := h
  obtain ⟨xs, n, _, hx, _, hlen, hg⟩ := DataW.trod_struct Try.underlying25 hf
  obtain ⟨y0, y1, rfl⟩ := two_of (show xs.length = 2 from hlen)
  have c0 : Try.prog.cellsOf 3 = 1 := by kernel_rfl
  have t0 : DataW.trod enc Try.prog W 0 (fun _ => true) true n 3 (([v0, v1].drop 0).take (Try.prog.cellsOf 3)) = some y0 := hg 0 _ rfl
  have t1 : DataW.trod enc Try.prog W 0 (fun _ => true) true n 3 (([v0, v1].drop 1).take (Try.prog.cellsOf 3)) = some y1 := hg 1 _ rfl
  rw [c0] at t0 t1
  obtain ⟨z0, hv0, _, w0⟩ := DataW.trod_int Try.underlying3 t0
  obtain ⟨z1, hv1, _, w1⟩ := DataW.trod_int Try.underlying3 t1
  obtain rfl : v0 = .int .i64 z0 := by simpa using hv0
  obtain rfl : v1 = .int .i64 z1 := by simpa using hv1
  exact ⟨⟨z0, z1⟩, rfl, wf_i64 w0, wf_i64 w1⟩
end

end Go.Proofs.Ytpfapkdenlfmbaa
