/- Proved here: a list of texts as a call is handed it, beside what the bound on its bulk gives. The conditions stand at each theorem. -/
import Derived.Test.YtcefmpnijjcekaaGreatDoorTk22
import Derived.Test.YtcefmpnijjcekaaGreatDoorRows
set_option linter.unusedVariables false
set_option linter.unusedSimpArgs false
namespace Go.Proofs.YtcefmpnijjcekaaGreatDoor
open Go.RowKit
open Go.ChangeShapes Go.WideShapes
theorem bulk_append {H:Type} (l r:List (DataW H)):Rows.uptoBulkAll (l ++ r)=Rows.uptoBulkAll l+Rows.uptoBulkAll r:=by
  induction l with
  | nil=>simp [Rows.uptoBulkAll]
  | cons x l ih=>simp only [List.cons_append,Rows.uptoBulkAll,ih];omega
theorem bulk_length {H:Type}:∀ (l:List (DataW H)),l.length≤Rows.uptoBulkAll l
  | []=>by simp [Rows.uptoBulkAll]
  | x::r=>by
    have h1:=bulk_length r
    have h2:1≤Rows.uptoBulk x:=by
      cases x with
      | lit l=>cases l <;> simp [Rows.uptoBulk]
      | nil=>simp [Rows.uptoBulk]
      | ptr d=>simp [Rows.uptoBulk]
      | slice elems spare=>simp [Rows.uptoBulk]
      | agg parts=>simp [Rows.uptoBulk]
      | iface t d=>simp [Rows.uptoBulk]
      | map entries=>simp [Rows.uptoBulk]
      | held h=>simp [Rows.uptoBulk]
    simp only [Rows.uptoBulkAll,List.length_cons]
    omega
theorem bulk_rows {H:Type} (g:Nat→DataW H):∀ (n i:Nat),i≤n→(∀ j,j < i→64≤Rows.uptoBulk (g j))→i * 64≤Rows.uptoBulkAll ((List.range n).map g)
  | 0,i,hi,_=>by
    obtain rfl:i=0:=by omega
    omega
  | n+1,i,hi,h=>by
    rw [List.range_succ,List.map_append,bulk_append]
    by_cases e:i=n+1
    · have h1:=bulk_rows g n n (Nat.le_refl _) (fun j hj=>h j (by omega))
      have h2:=h n (by omega)
      simp only [List.map_cons,List.map_nil,Rows.uptoBulkAll]
      omega
    · have h1:=bulk_rows g n i (by omega) h
      omega
theorem open_rows_upto {H:Type} {enc:TypeId × Value→H} {W:World} {a:Option Addr} {len cap:Nat} {d:DataW H} {p:List MemPlace}
    (h:DataW.Trod enc Tryz.prog W 0 (fun _=>true) true 22 (.slice a len cap) d p):∃ Z,RowsIn W a len cap Z∧(∀ i,i≤len→(∀ j,j < i→(Z.getD j []).length=64)→i * 64≤Rows.uptoBulk d)∧len≤Rows.uptoBulk d:=by
  obtain ⟨fuel,hf⟩:=h
  have hf0:=hf
  rcases Go.Deep.open_int_rows Tryz.underlying22 Tryz.underlying44 Tryz.underlying5 (by kernel_rfl) (by kernel_rfl) hf with ⟨hcs,_⟩ | ⟨x,l,c,A,L,C,Z,hcs,_,hl,hm,hd,hrows⟩
  · simp [Value.cells] at hcs
    obtain ⟨rfl,rfl,rfl⟩:=hcs
    exact ⟨[],⟨rfl,Nat.le_refl _,Or.inl rfl⟩,fun i hi _=>by omega,by omega⟩
  · simp [Value.cells] at hcs
    obtain ⟨rfl,rfl,rfl⟩:=hcs
    simp only [Prod.mk.injEq] at hd
    obtain ⟨Z0,hZ0⟩:=open_rows ⟨fuel,hf0⟩
    refine ⟨Z0,hZ0,fun i hi h64=>?_,?_⟩
    · rw [hd.1]
      simp only [Rows.uptoBulk]
      have hb:=bulk_rows (fun r=>Go.Deep.intRow (H:=H) .u8 (A r) (L r) (Z r)) len i hi (fun j hj=>?_)
      · omega
      · have h6:=hrows j (by omega)
        obtain ⟨b,off,ad,l1,c1,he,h1,h2⟩:=hZ0.at (i:=j) (by omega)
        have hL:L j=64:=by
          cases he
          rw [add_plain] at h6
          have e:=h6.1.symm.trans h1
          simp only [Option.some.injEq,Value.slice.injEq] at e
          have:=h2.1
          rw [h64 j hj] at this
          omega
        obtain ⟨_,hLC,_,hZl,_,hnone,_⟩:=h6
        cases hA:A j with
        | none=>have:=hnone hA;omega
        | some a'=>
          simp only [Go.Deep.intRow,Rows.uptoBulk]
          have h3:=bulk_length (H:=H) (Go.ChangeShapes.lits .u8 ((Z j).take (L j)))
          have h4:(Go.ChangeShapes.lits (H:=H) .u8 ((Z j).take (L j))).length=64:=by
            unfold Go.ChangeShapes.lits
            rw [List.length_map,List.length_take]
            omega
          omega
    · rw [hd.1]
      simp only [Rows.uptoBulk]
      have:=bulk_length ((List.range len).map fun r=>Go.Deep.intRow (H:=H) .u8 (A r) (L r) (Z r))
      simp at this
      omega
end Go.Proofs.YtcefmpnijjcekaaGreatDoor
