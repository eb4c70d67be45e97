/- Proved here: what the landed node's toSlots answers. The conditions stand at each theorem. Proved here: what the landed node's write answers. The conditions stand at each theorem. Proved here: what the landed node's get answers: the numbers of the places, read into a half. The conditions stand at each theorem. -/
import Derived.Test.YtcefmpnijjcekaaGreatDoorTk4
import Derived.Laws.ResultCell
import Derived.Test.YtcefmpnijjcekaaGreatDoorTk2
import Derived.Test.YtcefmpnijjcekaaGreatDoorTk1
import Derived.Deep.RegionHeld
import Derived.Deep.Cut
set_option linter.unusedVariables false
set_option linter.unusedSimpArgs false
namespace Go.Proofs.YtcefmpnijjcekaaGreatDoor
open Go.RowKit
theorem results_one9 {fn:Func} {p:Tmp} {ty:TypeId} (h:fn.results=#[.cell p ty]) (tmps:Array Value) (P:Program) (w:World) :
    (results fn tmps).run P w=((asAddr (tmps.getD p undef)).run P w).andThen fun a w₁=>(loadVar ty a).run P w₁:=by
  simp only [results,h]
  simp [Sem.run_bind,Result.andThen]
def flatX (xs:List PX):List Int:=xs.flatMap fun x=>[x.a,x.f,x.c]
def slotI (xs:List PX) (j:Nat):Int:=(flatX xs).getD j 0
def slotsV (xs:List PX):Value:=.agg #[.int .i64 (slotI xs 0),.int .i64 (slotI xs 1),.int .i64 (slotI xs 2),.int .i64 (slotI xs 3),.int .i64 (slotI xs 4),.int .i64 (slotI xs 5),.int .i64 (slotI xs 6),.int .i64 (slotI xs 7),.int .i64 (slotI xs 8)]
theorem flatX_length (xs:List PX):(flatX xs).length=xs.length * 3:=by
  unfold flatX
  induction xs with
  | nil=>rfl
  | cons p r ih=>rw [List.flatMap_cons,List.length_append,ih];show 3+_=_;rw [List.length_cons];omega
theorem slotI_step {xs:List PX} {i:Nat} {x:PX} (h:xs[i]?=some x) (j:Nat):slotI (xs.take (i+1)) j=if j=3 * i then x.a else if j=3 * i+1 then x.f else if j=3 * i+2 then x.c else slotI (xs.take i) j:=by
  have hi:=(List.getElem?_eq_some_iff.1 h).1
  have hl:(flatX (xs.take i)).length=3 * i:=by rw [flatX_length,List.length_take];omega
  unfold slotI
  rw [take_at h,show flatX (xs.take i ++ [x])=flatX (xs.take i) ++ [x.a,x.f,x.c] by unfold flatX;rw [List.flatMap_append];rfl]
  rw [List.getD_eq_getElem?_getD,List.getD_eq_getElem?_getD]
  by_cases h0:j < 3 * i
  · rw [List.getElem?_append_left (by omega),if_neg (by omega),if_neg (by omega),if_neg (by omega)]
  · rw [List.getElem?_append_right (by omega),hl]
    by_cases h1:j=3 * i
    · rw [if_pos h1,h1,Nat.sub_self];rfl
    · rw [if_neg h1]
      by_cases h2:j=3 * i+1
      · rw [if_pos h2,h2,show 3 * i+1 - 3 * i=1 by omega];rfl
      · rw [if_neg h2]
        by_cases h3:j=3 * i+2
        · rw [if_pos h3,h3,show 3 * i+2 - 3 * i=2 by omega];rfl
        · rw [if_neg h3,List.getElem?_eq_none (by show 3≤j - 3 * i;omega),List.getElem?_eq_none (by omega)]
def Nine (w0:World) (g:Nat) (L:Nat→Int) (wr:World):Prop:=
  Below w0.heap.size w0 wr∧(∀ j,j < 9→wr.cell? ⟨g,j,none⟩=some (.int .i64 (L j)))∧∀ j,wr.frozen? ⟨g,j,none⟩=false
theorem Nine.alloc {w0 wr:World} {g:Nat} {L:Nat→Int} (h:Nine w0 g L wr) (o:Obj):Nine w0 g L (wr.alloc o):=by
  have hb:Below wr.heap.size wr (wr.alloc o):=(Below.refl _ _).alloc (Nat.le_refl _) _
  have hg:g < wr.heap.size:=World.block_lt_of_cell? _ _ (h.2.1 0 (by decide))
  exact ⟨h.1.trans (hb.mono h.1.size),fun j hj=>cell_later hb (h.2.1 j hj),fun j=>by rw [hb.frozen (p:=⟨g,j,none⟩) hg];exact h.2.2 j⟩
theorem Nine.set {w0 wr:World} {g k:Nat} {L:Nat→Int} (h:Nine w0 g L wr) (hg:w0.heap.size≤g) (hk:k < 9) (x:Int):Nine w0 g (fun j=>if j=k then x else L j) (wr.setCell ⟨g,k,none⟩ (.int .i64 x)):=by
  refine ⟨h.1.setCell (p:=⟨g,k,none⟩) hg _,fun j hj=>?_,fun j=>by simpa using h.2.2 j⟩
  show (wr.setCell ⟨g,k,none⟩ (.int .i64 x)).cell? ⟨g,j,none⟩=some (.int .i64 (if j=k then x else L j))
  by_cases e:j=k
  · subst e
    rw [if_pos rfl]
    exact World.cell?_setCell_same wr _ _ (h.2.1 j hj)
  · rw [if_neg e,World.cell?_setCell_other (h:=by intro e';exact e (by simpa using (congrArg Addr.off e').symm))]
    exact h.2.1 j hj
theorem Nine.congr {w0 wr:World} {g:Nat} {L M:Nat→Int} (h:Nine w0 g L wr) (he:∀ j,j < 9→L j=M j):Nine w0 g M wr:=
  ⟨h.1,fun j hj=>by rw [h.2.1 j hj,he j hj],h.2.2⟩
def Zeros9 (g:Nat) (wr:World):Prop:=(∀ j,j < 9→wr.cell? ⟨g,j,none⟩=some (.int .i64 0))∧∀ j,wr.frozen? ⟨g,j,none⟩=false
theorem Zeros9.alloc {wr:World} {g:Nat} (h:Zeros9 g wr) (o:Obj):Zeros9 g (wr.alloc o):=by
  have hb:Below wr.heap.size wr (wr.alloc o):=(Below.refl _ _).alloc (Nat.le_refl _) _
  have hg:g < wr.heap.size:=World.block_lt_of_cell? _ _ (h.1 0 (by decide))
  exact ⟨fun j hj=>cell_later hb (h.1 j hj),fun j=>by rw [hb.frozen (p:=⟨g,j,none⟩) hg];exact h.2 j⟩
theorem Zeros9.set {wr:World} {g g' k:Nat} {v:Value} (h:Zeros9 g wr) (hne:g'≠g):Zeros9 g (wr.setCell ⟨g',k,none⟩ v):=
  ⟨fun j hj=>by rw [World.cell?_setCell_other (h:=by intro e;exact hne (by simpa using congrArg Addr.block e))];exact h.1 j hj,fun j=>by simpa using h.2 j⟩
theorem zeros_cells (w:World) (T:TypeId):Zeros9 w.heap.size (w.alloc (.cells #[.int .i64 0,.int .i64 0,.int .i64 0,.int .i64 0,.int .i64 0,.int .i64 0,.int .i64 0,.int .i64 0,.int .i64 0] T)):=by
  refine ⟨fun j hj=>?_,fun j=>by rw [World.frozen?_alloc_mark];simp⟩
  rw [World.cell?_alloc_new]
  match j,hj with
  | 0,_ | 1,_ | 2,_ | 3,_ | 4,_ | 5,_ | 6,_ | 7,_ | 8,_=>rfl
set_option maxRecDepth 100000 in
set_option maxHeartbeats 6400000 in
theorem toSlots_any {w:World} {ao:Option Addr} {m cap:Nat} {xs:List PX} (hX:XIs w ao m xs) (hr:∀ x ∈ xs,runOk x.f x.c=true∧smallX x) :
    Calls Tryz.prog 157 #[.slice ao m cap] w fun e w'=>e=.returned (slotsV xs)∧Below w.heap.size w w':=by
  have hm:=hX.2.1
  have HX:=Lib.hid hX
  have HR:=Lib.hid hr
  have HXL:=Lib.hid hX.1
  have SC:=st_cx
  clear hX hr
  have HZ0:Hid (Zeros9 w.heap.size ((w.alloc (.cells #[.int .i64 0,.int .i64 0,.int .i64 0,.int .i64 0,.int .i64 0,.int .i64 0,.int .i64 0,.int .i64 0,.int .i64 0] 204)).alloc (.cells #[.int .i64 0,.int .i64 0,.int .i64 0,.int .i64 0,.int .i64 0,.int .i64 0,.int .i64 0,.int .i64 0,.int .i64 0] 204))):=Lib.hid ((zeros_cells w _).alloc _)
  have HN0:Hid (Nine w (w.heap.size+1) (fun _=>0) ((w.alloc (.cells #[.int .i64 0,.int .i64 0,.int .i64 0,.int .i64 0,.int .i64 0,.int .i64 0,.int .i64 0,.int .i64 0,.int .i64 0] 204)).alloc (.cells #[.int .i64 0,.int .i64 0,.int .i64 0,.int .i64 0,.int .i64 0,.int .i64 0,.int .i64 0,.int .i64 0,.int .i64 0] 204))):=Lib.hid (by
    have h:=zeros_cells (w.alloc (.cells #[.int .i64 0,.int .i64 0,.int .i64 0,.int .i64 0,.int .i64 0,.int .i64 0,.int .i64 0,.int .i64 0,.int .i64 0] 204)) 204
    rw [World.size_alloc] at h
    exact ⟨((Below.refl _ _).alloc (Nat.le_refl _) _).alloc (by simp) _,h.1,h.2⟩)
  go_enter Tryz.func157,Tryz.ntmps157
  go_wp2_with fail
  go_loopw [11] (fun iv wr=>∃ i:Int,iv=.int .i64 i∧(0≤i∧i≤m)∧Hid (Nine w (w.heap.size+1) (slotI (xs.take i.toNat)) wr)∧Hid (Zeros9 w.heap.size wr)) (fun iv _=>m - (intOf iv).toNat)
  case atStart=>exact ⟨0,rfl,by omega,Lib.hid (HN0.out.congr (fun j hj=>by unfold slotI;rfl)),HZ0⟩
  case round=>
    obtain ⟨i,rfl,hi,HN,HZ⟩:=hrel
    by_cases hlt:i < m
    · obtain ⟨b,off,x,p,q,rfl,hx,hmem,c1,c2,f1,f2⟩:=HX.out.at (i:=i.toNat) (by omega)
      have d1:wr.cell? ⟨b,off+i.toNat * 2,none⟩=some (.int .i64 x.a):=cell_later HN.out.1 c1
      have d2:wr.cell? ⟨b,off+i.toNat * 2+1,none⟩=some (.complex .f64 p q):=cell_later HN.out.1 c2
      have hok:=HR.out x hmem
      have cP:=fun W=>Parts_gen (.complex .f64 p q) x.f x.c W ⟨_,_,rfl,f1,f2⟩ hok.2.2
      unfold partA partB partE at cP
      rw [if_pos hok.1,if_pos hok.1,if_pos hok.1] at cP
      have HS:=Lib.hid (slotI_step hx)
      have HA:=Lib.hid (HN.out.alloc (.cells #[.int .i64 x.a,.complex .f64 p q] 99))
      have HZA:=Lib.hid (HZ.out.alloc (.cells #[.int .i64 x.a,.complex .f64 p q] 99))
      clear hx hmem c1 c2 f1 f2 hok
      obtain ⟨a,f,c⟩:=x
      simp only at *
      have hi3:i < 3:=by omega
      obtain rfl | rfl | rfl:i=0∨i=1∨i=2:=by omega
      · have d1':wr.cell? ⟨b,off,none⟩=some (.int .i64 a):=d1
        have d2':wr.cell? ⟨b,off+1,none⟩=some (.complex .f64 p q):=d2
        clear d1 d2
        have g0:=HA.out.2.1 0 (by decide)
        have g1:=HA.out.2.1 1 (by decide)
        have g2:=HA.out.2.1 2 (by decide)
        have k0:=HA.out.2.2 0
        have k1:=HA.out.2.2 1
        have k2:=HA.out.2.2 2
        generalize slotI (xs.take (Int.toNat 0)) 0=y0 at g0
        generalize slotI (xs.take (Int.toNat 0)) 1=y1 at g1
        generalize slotI (xs.take (Int.toNat 0)) 2=y2 at g2
        have j1:(0:Int) < (m:Int):=by omega
        go_wp2_with (go_at_call 98;refine (cP _).mono ?_;rintro e' w3 ⟨rfl,rfl⟩)
        go_roundw
        case rel=>exact ⟨1,by go_num,by omega,Lib.hid ((((HA.out.set (Nat.le_succ _) (k:=0) (by decide) a).set (Nat.le_succ _) (k:=1) (by decide) f).set (Nat.le_succ _) (k:=2) (by decide) c).congr (fun j hj=>by
          refine Eq.trans ?_ (show (if j=0 then a else if j=1 then f else if j=2 then c else slotI (xs.take 0) j)=slotI (xs.take 1) j from (HS.out j).symm)
          by_cases h1:j=0
          · subst h1;rfl
          · by_cases h2:j=1
            · subst h2;rfl
            · by_cases h3:j=2
              · subst h3;rfl
              · rw [if_neg h3,if_neg h2,if_neg h1,if_neg h1,if_neg h2,if_neg h3];rfl)),Lib.hid (((HZA.out.set (by omega)).set (by omega)).set (by omega))⟩
        case measure=>simp [intOf];omega
      · have d1':wr.cell? ⟨b,off+2,none⟩=some (.int .i64 a):=d1
        have d2':wr.cell? ⟨b,off+3,none⟩=some (.complex .f64 p q):=d2
        clear d1 d2
        have g0:=HA.out.2.1 3 (by decide)
        have g1:=HA.out.2.1 4 (by decide)
        have g2:=HA.out.2.1 5 (by decide)
        have k0:=HA.out.2.2 3
        have k1:=HA.out.2.2 4
        have k2:=HA.out.2.2 5
        generalize slotI (xs.take (Int.toNat 1)) 3=y0 at g0
        generalize slotI (xs.take (Int.toNat 1)) 4=y1 at g1
        generalize slotI (xs.take (Int.toNat 1)) 5=y2 at g2
        have j1:(1:Int) < (m:Int):=by omega
        go_wp2_with (go_at_call 98;refine (cP _).mono ?_;rintro e' w3 ⟨rfl,rfl⟩)
        go_roundw
        case rel=>exact ⟨2,by go_num,by omega,Lib.hid ((((HA.out.set (Nat.le_succ _) (k:=3) (by decide) a).set (Nat.le_succ _) (k:=4) (by decide) f).set (Nat.le_succ _) (k:=5) (by decide) c).congr (fun j hj=>by
          refine Eq.trans ?_ (show (if j=3 then a else if j=4 then f else if j=5 then c else slotI (xs.take 1) j)=slotI (xs.take 2) j from (HS.out j).symm)
          by_cases h1:j=3
          · subst h1;rfl
          · by_cases h2:j=4
            · subst h2;rfl
            · by_cases h3:j=5
              · subst h3;rfl
              · rw [if_neg h3,if_neg h2,if_neg h1,if_neg h1,if_neg h2,if_neg h3];rfl)),Lib.hid (((HZA.out.set (by omega)).set (by omega)).set (by omega))⟩
        case measure=>simp [intOf];omega
      · have d1':wr.cell? ⟨b,off+4,none⟩=some (.int .i64 a):=d1
        have d2':wr.cell? ⟨b,off+5,none⟩=some (.complex .f64 p q):=d2
        clear d1 d2
        have g0:=HA.out.2.1 6 (by decide)
        have g1:=HA.out.2.1 7 (by decide)
        have g2:=HA.out.2.1 8 (by decide)
        have k0:=HA.out.2.2 6
        have k1:=HA.out.2.2 7
        have k2:=HA.out.2.2 8
        generalize slotI (xs.take (Int.toNat 2)) 6=y0 at g0
        generalize slotI (xs.take (Int.toNat 2)) 7=y1 at g1
        generalize slotI (xs.take (Int.toNat 2)) 8=y2 at g2
        have j1:(2:Int) < (m:Int):=by omega
        go_wp2_with (go_at_call 98;refine (cP _).mono ?_;rintro e' w3 ⟨rfl,rfl⟩)
        go_roundw
        case rel=>exact ⟨3,by go_num,by omega,Lib.hid ((((HA.out.set (Nat.le_succ _) (k:=6) (by decide) a).set (Nat.le_succ _) (k:=7) (by decide) f).set (Nat.le_succ _) (k:=8) (by decide) c).congr (fun j hj=>by
          refine Eq.trans ?_ (show (if j=6 then a else if j=7 then f else if j=8 then c else slotI (xs.take 2) j)=slotI (xs.take 3) j from (HS.out j).symm)
          by_cases h1:j=6
          · subst h1;rfl
          · by_cases h2:j=7
            · subst h2;rfl
            · by_cases h3:j=8
              · subst h3;rfl
              · rw [if_neg h3,if_neg h2,if_neg h1,if_neg h1,if_neg h2,if_neg h3];rfl)),Lib.hid (((HZA.out.set (by omega)).set (by omega)).set (by omega))⟩
        case measure=>simp [intOf];omega
    · have hin:i=m:=by omega
      subst hin
      have e0:(m:Int).toNat=m:=by omega
      rw [e0,← HXL.out,List.take_length] at HN
      have n0:=HN.out.2.1 0 (by decide)
      have z0:=HZ.out.1 0 (by decide)
      have r0:=HZ.out.2 0
      have n1:=HN.out.2.1 1 (by decide)
      have z1:=HZ.out.1 1 (by decide)
      have r1:=HZ.out.2 1
      have n2:=HN.out.2.1 2 (by decide)
      have z2:=HZ.out.1 2 (by decide)
      have r2:=HZ.out.2 2
      have n3:=HN.out.2.1 3 (by decide)
      have z3:=HZ.out.1 3 (by decide)
      have r3:=HZ.out.2 3
      have n4:=HN.out.2.1 4 (by decide)
      have z4:=HZ.out.1 4 (by decide)
      have r4:=HZ.out.2 4
      have n5:=HN.out.2.1 5 (by decide)
      have z5:=HZ.out.1 5 (by decide)
      have r5:=HZ.out.2 5
      have n6:=HN.out.2.1 6 (by decide)
      have z6:=HZ.out.1 6 (by decide)
      have r6:=HZ.out.2 6
      have n7:=HN.out.2.1 7 (by decide)
      have z7:=HZ.out.1 7 (by decide)
      have r7:=HZ.out.2 7
      have n8:=HN.out.2.1 8 (by decide)
      have z8:=HZ.out.1 8 (by decide)
      have r8:=HZ.out.2 8
      have HB:=Lib.hid HN.out.1
      go_wp2_with fail
      refine bodyPost_ret (v:=slotsV xs) ?_ rfl ⟨rfl,(((((((((HB.out.setCell (Nat.le_refl _) _).setCell (Nat.le_refl _) _).setCell (Nat.le_refl _) _).setCell (Nat.le_refl _) _).setCell (Nat.le_refl _) _).setCell (Nat.le_refl _) _).setCell (Nat.le_refl _) _).setCell (Nat.le_refl _) _).setCell (Nat.le_refl _) _)⟩
      rw [results_one9 rfl]
      unfold slotsV
      go_simp
      try rfl
end Go.Proofs.YtcefmpnijjcekaaGreatDoor
namespace Go.Proofs.YtcefmpnijjcekaaGreatDoor
open Go.RowKit
set_option maxRecDepth 100000 in
theorem clone_any (ad:Addr) (len cap:Nat) (zs:List Int) (w:World) (hA:Arg w (some ad) len cap zs) :
    Calls Tryz.prog 158 #[.slice (some ad) len cap] w (Gives w.heap.size w zs):=by
  obtain ⟨hB,hnil,_,hlen⟩:=hA
  have hown:=World.ownsRow_made (base:=w.heap.size) (e:=5) (size:=1) w #[] 0 (Nat.le_refl _) (by decide) rfl
  have hb0:Below w.heap.size w (w.alloc (.cells #[] 5)):=(Below.refl _ _).alloc (Nat.le_refl _) _
  have hA0:=hB.later hb0
  have HZ:=Lib.hid hB.2.2.1
  have EQ:∀ w,(binOp .eql 44 (.slice (some ad) len cap) (.slice none 0 0)).run Tryz.prog w=.ok (.bool false) w:=fun w=>by
    simp only [binOp]
    simp [run_equal_slice_nil w 44 5 (some ad) len cap Tryz.underlying44]
  clear hB hnil
  go_enter Tryz.func158,Tryz.ntmps158
  go_wp2_with (at_builtin;refine wp_append_bytes rfl (.tmp 5) (.tmp 6) rfl w.heap.size 0 _ [] rfl hown (some ad) len cap zs rfl hA0 (by simp) (by omega) (by simp) ?_;intro v1 w1 hown1 hb1;have HB1:=Lib.hid (hb0.trans hb1);have HO1:=Lib.hid hown1;clear hown1 hb1 hown hA0)
  go_ret
  have h:=HO1.out
  rw [Nat.zero_add,List.nil_append] at h
  exact ⟨_,rfl,fresh_of_owns h HZ.out hlen,HB1.out⟩
theorem made_later {w w5:World} {T:TypeId} {cs:Array Value} (hb:Below (w.alloc (.cells cs T)).drew.heap.size (w.alloc (.cells cs T)).drew w5) :
    (∀ j v,cs[j]?=some v→w5.cell? ⟨w.heap.size,j,none⟩=some v)∧∀ j,w5.frozen? ⟨w.heap.size,j,none⟩=false:=by
  refine ⟨fun j v h=>cell_later hb (show (w.alloc (.cells cs T)).cell? ⟨w.heap.size,j,none⟩=some v by rw [World.cell?_alloc_new];exact h),fun j=>?_⟩
  have hlt:w.heap.size < (w.alloc (.cells cs T)).drew.heap.size:=by show _ < (w.alloc (.cells cs T)).heap.size;simp
  rw [hb.frozen (p:=⟨w.heap.size,j,none⟩) hlt]
  show (w.alloc (.cells cs T)).frozen? ⟨w.heap.size,j,none⟩=false
  rw [World.frozen?_alloc_mark];simp
theorem there_new (w:World) (cs:Array Value) (T:TypeId) {n:Nat} (h:cs.size=n):(w.alloc (.cells cs T)).there w.heap.size 0 n:=by
  intro j hj
  refine ⟨?_,by rw [World.frozen?_alloc_mark];simp⟩
  rw [World.cell?_alloc_new]
  simp
  omega
theorem there_made {w5:World} {g:Nat} {cs:Array Value} (h:(∀ j v,cs[j]?=some v→w5.cell? ⟨g,j,none⟩=some v)∧∀ j,w5.frozen? ⟨g,j,none⟩=false) {n:Nat} (hn:cs.size=n):w5.there g 0 n:=by
  intro j hj
  refine ⟨?_,h.2 _⟩
  rw [Nat.zero_add,h.1 j cs[j] (by simp [hn,hj])]
  rfl
theorem below_setCells {B g:Nat} {a w:World} (h:Below B a w) (hg:B≤g):∀ (vs:List Value) (o:Nat),Below B a (w.setCells g o vs)
  | [],_=>h
  | v::r,o=>below_setCells (h.setCell (p:=⟨g,o,none⟩) hg v) hg r (o+1)
def wrt9 (val:Nat→Int) (zs:List Int) (ps:List Pl):List Int:=ps.foldl (fun z p=>setOut z p.1 p.2.1 (val p.2.2)) zs
theorem wrt9_snoc (val:Nat→Int) (zs:List Int) (ps:List Pl) (p:Pl):wrt9 val zs (ps ++ [p])=setOut (wrt9 val zs ps) p.1 p.2.1 (val p.2.2):=by
  unfold wrt9;rw [List.foldl_append];rfl
def valOf (n:PNode) (o:Nat):Int:=[n.k,n.f,n.l,n.z,n.d0,n.d1,n.d2,n.d3,n.s,n.t,0,n.c,slotI n.x 0,slotI n.x 1,slotI n.x 2,slotI n.x 3,slotI n.x 4,slotI n.x 5,slotI n.x 6,slotI n.x 7,slotI n.x 8].getD o 0
def HalfAt (w:World) (g:Nat) (n:PNode):Prop:=∀ o,o < 21→o≠10→w.cell? ⟨g,o,none⟩=some (.int .i64 (valOf n o))
theorem HalfAt.later {w w':World} {g:Nat} {n:PNode} (h:HalfAt w g n) (hb:Below w.heap.size w w'):HalfAt w' g n:=fun o h1 h2=>cell_later hb (h o h1 h2)
def PlcAt (w:World) (gp g:Nat) (ps:List Pl):Prop:=∀ i p,ps[i]?=some p→w.cell? ⟨gp,i * 3,none⟩=some (.int .i64 p.1)∧w.cell? ⟨gp,i * 3+1,none⟩=some (.int .i64 p.2.1)∧w.cell? ⟨gp,i * 3+2,none⟩=some (.pointer (some ⟨g,p.2.2,none⟩))
theorem PlcAt.later {w w':World} {gp g:Nat} {ps:List Pl} (h:PlcAt w gp g ps) (hb:Below w.heap.size w w'):PlcAt w' gp g ps:=fun i p hp=>by
  obtain ⟨h1,h2,h3⟩:=h i p hp
  exact ⟨cell_later hb h1,cell_later hb h2,cell_later hb h3⟩
theorem Places.at {w:World} {base g:Nat} {v:Value} {ps:List Pl} (h:Places w base g v ps) (h0:0 < ps.length):∃ gp cap,v=.slice (some ⟨gp,0,none⟩) ps.length cap∧base≤gp∧PlcAt w gp g ps:=by
  unfold Places at h
  obtain ⟨gp,cap,hv,hg,_⟩:=h.form h0
  refine ⟨gp,cap,hv,hg,fun i p hp=>?_⟩
  obtain ⟨h1,h2,h3⟩:=placesV_at g ps i p hp
  have c:=h.cells (g:=gp) (by rw [hv];rfl)
  have c1:=c _ _ h1
  have c2:=c _ _ h2
  have c3:=c _ _ h3
  rw [Go.WideShapes.add_plain,Nat.zero_add] at c1 c2 c3
  exact ⟨c1,c2,c3⟩
theorem fresh_form9 {w:World} {base:Nat} {v:Value} {l:List Int} (h:Fresh w base v l):∃ ao cap,v=.slice ao l.length cap∧Arg w ao l.length cap l:=by
  obtain ⟨ao,cap,hv,hA,_⟩:=h
  exact ⟨ao,cap,hv,hA⟩
theorem half_stored {W:World} {g:Nat} (ht:W.there g 0 21) (n:PNode) (v:Value):HalfAt (W.setCells g 0 [.int .i64 n.k,.int .i64 n.f,.int .i64 n.l,.int .i64 n.z,.int .i64 n.d0,.int .i64 n.d1,.int .i64 n.d2,.int .i64 n.d3,.int .i64 n.s,.int .i64 n.t,v,.int .i64 n.c,.int .i64 (slotI n.x 0),.int .i64 (slotI n.x 1),.int .i64 (slotI n.x 2),.int .i64 (slotI n.x 3),.int .i64 (slotI n.x 4),.int .i64 (slotI n.x 5),.int .i64 (slotI n.x 6),.int .i64 (slotI n.x 7),.int .i64 (slotI n.x 8)]) g n:=by
  intro o ho hne
  have h:=World.rangeAt_setCells_same W g 0 [.int .i64 n.k,.int .i64 n.f,.int .i64 n.l,.int .i64 n.z,.int .i64 n.d0,.int .i64 n.d1,.int .i64 n.d2,.int .i64 n.d3,.int .i64 n.s,.int .i64 n.t,v,.int .i64 n.c,.int .i64 (slotI n.x 0),.int .i64 (slotI n.x 1),.int .i64 (slotI n.x 2),.int .i64 (slotI n.x 3),.int .i64 (slotI n.x 4),.int .i64 (slotI n.x 5),.int .i64 (slotI n.x 6),.int .i64 (slotI n.x 7),.int .i64 (slotI n.x 8)] ht o (.int .i64 (valOf n o))
  rw [Nat.zero_add] at h
  apply h
  match o,ho,hne with
  | 0,_,_ | 1,_,_ | 2,_,_ | 3,_,_ | 4,_,_ | 5,_,_ | 6,_,_ | 7,_,_ | 8,_,_ | 9,_,_ | 11,_,_ | 12,_,_ | 13,_,_ | 14,_,_ | 15,_,_ | 16,_,_ | 17,_,_ | 18,_,_ | 19,_,_ | 20,_,_=>rfl
  | 10,_,h=>exact absurd rfl h
  | o+21,h,_=>exact absurd h (by omega)
section
variable {ops:Array Oper} {rest:List Oper} {o:Oper} {a:Act} {w:World} {Q:Exit→Act→World→Prop}
theorem wp_append_pl (hgd:o.guard=none) (s y:Operand) (ho:o.op=.call { callee:=.builtin .append,args:=#[s,y],argTypes:=#[208,208] })
    (base b7 g:Nat) (v6 v7:Value) (ps qs:List Pl) (hs:a.eval s=v6) (hy:a.eval y=v7) (h6:Places w base g v6 ps) (h7:Places w b7 g v7 qs) (hnil:qs=[]→v7=.slice none 0 0) (hb:ps.length+qs.length≤1000) (hbase:base≤w.heap.size)
    (h:∀ v' w',Places w' base g v' (ps ++ qs)→Below base w w'→wpList Tryz.prog ops Q rest (a.put o.dst v') w'):wpList Tryz.prog ops Q (o::rest) a w:=by
  by_cases hq:qs=[]
  · have hv:=hnil hq
    subst hq hv
    obtain ⟨i0,hi,_,_,_⟩:=info_parts elemPlace.2.1
    refine wpList_append_own_none hgd s y 208 ho base 218 i0 3 Tryz.underlying208 hi v6 ps.length _ hs h6 hy (h v6 w ?_ (Below.refl _ _))
    rw [List.append_nil]
    exact h6
  · obtain ⟨gp,cap,hv,_,hc⟩:=h7.form (List.length_pos_iff.2 hq)
    have hcl:=h7.cells (g:=gp) (by rw [hv];rfl)
    refine wp_append_ks elemPlace hgd s y ho base ps.length v6 (placesV g ps) hs h6 ⟨gp,0,none⟩ qs.length cap (placesV g qs) (placesV_length g qs) (by rw [hy,hv]) hcl (placesV_one g qs) (by omega) hbase (fun v' w' h1 _ h3=>h v' w' ?_ h3)
    unfold Places
    rw [placesV_append,List.length_append]
    exact h1
end
theorem places_later {w w':World} {base g:Nat} {v:Value} {ps:List Pl} (h:Places w base g v ps) (hb:Below w.heap.size w w'):Places w' base g v ps:=
  World.ownsRow.kept h (row:=none) ⟨hb.os,hb.tape,hb.output,hb.size,fun k hk _=>hb.block k hk⟩ (by cases v.ownBlock <;> simp)
def okPl (p:Pl):Prop:=0≤p.1∧p.1≤60∧1≤p.2.1∧p.2.1≤4∧p.2.2 < 21∧p.2.2≠10
theorem okPl_head:∀ p ∈ headPs9,okPl p:=by unfold headPs9 okPl;decide
theorem okPl_body (f:Int):∀ p ∈ bodyPs f,okPl p:=by
  unfold bodyPs
  split
  · unfold oldPs okPl;decide
  · split
    · unfold newPs slotPs okPl;decide
    · simp
theorem setErr_fits {n:Int} (h:0≤n∧n < 4294967296):setErr 64 28 4 n=0:=by
  unfold setErr
  rw [if_neg (by decide),if_neg]
  rintro (h' | h')
  · omega
  · rw [putK_quot] at h'
    have:n / 256^(Int.toNat 4)=0:=Int.ediv_eq_zero_of_lt h.1 h.2
    omega
def zeros64n:List Int:=List.replicate 64 0
set_option maxRecDepth 100000 in
set_option maxHeartbeats 12800000 in
theorem write9_any (n:PNode) {ao:Option Addr} {m cap:Nat} (w:World) (hn:n.small) (hX:XIs w ao m n.x) (hr:∀ x ∈ n.x,runOk x.f x.c=true∧smallX x) (h64:(wrt9 (valOf n) zeros64n (headPs9 ++ bodyPs n.f)).length=64) (hval:∀ o,-9223372036854775808≤valOf n o∧valOf n o≤9223372036854775807) :
    Calls Tryz.prog 102 #[n.val (.slice ao m cap)] w (Gives w.heap.size w ((setOut (wrt9 (valOf n) zeros64n (headPs9 ++ bodyPs n.f)) 28 4 (sumS ((wrt9 (valOf n) zeros64n (headPs9 ++ bodyPs n.f)).take 28))).take 32)):=by
  obtain ⟨k,f,l,z,d0,d1,d2,d3,s,t,x,c⟩:=n
  unfold PNode.val
  simp only at hX hr ⊢
  have HVAL:=Lib.hid hval
  have HW64:=Lib.hid h64
  have HLEN:Hid (headPs9.length+(bodyPs f).length≤1000):=Lib.hid (by unfold bodyPs;split;decide;split <;> decide)
  simp only at HW64
  clear hval h64
  have HB:Hid (Below w.heap.size w (w.alloc (.cells #[.int .i64 k,.int .i64 f,.int .i64 l,.int .i64 z,.int .i64 d0,.int .i64 d1,.int .i64 d2,.int .i64 d3,.int .i64 s,.int .i64 t,.slice ao m cap,.int .i64 c] 68))):=Lib.hid ((Below.refl _ _).alloc (Nat.le_refl _) _)
  have HC:Hid (∀ j v,(#[.int .i64 k,.int .i64 f,.int .i64 l,.int .i64 z,.int .i64 d0,.int .i64 d1,.int .i64 d2,.int .i64 d3,.int .i64 s,.int .i64 t,.slice ao m cap,.int .i64 c]:Array Value)[j]?=some v→(w.alloc (.cells #[.int .i64 k,.int .i64 f,.int .i64 l,.int .i64 z,.int .i64 d0,.int .i64 d1,.int .i64 d2,.int .i64 d3,.int .i64 s,.int .i64 t,.slice ao m cap,.int .i64 c] 68)).cell? ⟨w.heap.size,j,none⟩=some v):=Lib.hid (fun j v h=>by rw [World.cell?_alloc_new];exact h)
  have HM:Hid (∀ W,Below w.heap.size w W→Calls Tryz.prog 157 #[.slice ao m cap] W (fun e w'=>e=.returned (slotsV x)∧Below W.heap.size W w')):=Lib.hid (fun W hW=>toSlots_any (cap:=cap) (hX.later hW) hr)
  have BA:Hid (Below (w.alloc (.cells #[.int .i64 k,.int .i64 f,.int .i64 l,.int .i64 z,.int .i64 d0,.int .i64 d1,.int .i64 d2,.int .i64 d3,.int .i64 s,.int .i64 t,.slice ao m cap,.int .i64 c] 68)).heap.size (w.alloc (.cells #[.int .i64 k,.int .i64 f,.int .i64 l,.int .i64 z,.int .i64 d0,.int .i64 d1,.int .i64 d2,.int .i64 d3,.int .i64 s,.int .i64 t,.slice ao m cap,.int .i64 c] 68)) ((w.alloc (.cells #[.int .i64 k,.int .i64 f,.int .i64 l,.int .i64 z,.int .i64 d0,.int .i64 d1,.int .i64 d2,.int .i64 d3,.int .i64 s,.int .i64 t,.slice ao m cap,.int .i64 c] 68)).alloc (.cells #[.int .i64 0,.int .i64 0,.int .i64 0,.int .i64 0,.int .i64 0,.int .i64 0,.int .i64 0,.int .i64 0,.int .i64 0,.int .i64 0,.slice none 0 0,.int .i64 0,.int .i64 0,.int .i64 0,.int .i64 0,.int .i64 0,.int .i64 0,.int .i64 0,.int .i64 0,.int .i64 0,.int .i64 0] 206)).drew):=Lib.hid ((Below.refl _ _).alloc (Nat.le_refl _) _).drew
  have HK:Hid (∀ W,Below (w.alloc (.cells #[.int .i64 k,.int .i64 f,.int .i64 l,.int .i64 z,.int .i64 d0,.int .i64 d1,.int .i64 d2,.int .i64 d3,.int .i64 s,.int .i64 t,.slice ao m cap,.int .i64 c] 68)).heap.size (w.alloc (.cells #[.int .i64 k,.int .i64 f,.int .i64 l,.int .i64 z,.int .i64 d0,.int .i64 d1,.int .i64 d2,.int .i64 d3,.int .i64 s,.int .i64 t,.slice ao m cap,.int .i64 c] 68)) W→W.cell? ⟨w.heap.size,0,none⟩=some (.int .i64 k)∧W.cell? ⟨w.heap.size,1,none⟩=some (.int .i64 f)∧W.cell? ⟨w.heap.size,2,none⟩=some (.int .i64 l)∧W.cell? ⟨w.heap.size,3,none⟩=some (.int .i64 z)∧W.cell? ⟨w.heap.size,4,none⟩=some (.int .i64 d0)∧W.cell? ⟨w.heap.size,5,none⟩=some (.int .i64 d1)∧W.cell? ⟨w.heap.size,6,none⟩=some (.int .i64 d2)∧W.cell? ⟨w.heap.size,7,none⟩=some (.int .i64 d3)∧W.cell? ⟨w.heap.size,8,none⟩=some (.int .i64 s)∧W.cell? ⟨w.heap.size,9,none⟩=some (.int .i64 t)∧W.cell? ⟨w.heap.size,10,none⟩=some (.slice ao m cap)∧W.cell? ⟨w.heap.size,11,none⟩=some (.int .i64 c)∧Hid (Below (w.alloc (.cells #[.int .i64 k,.int .i64 f,.int .i64 l,.int .i64 z,.int .i64 d0,.int .i64 d1,.int .i64 d2,.int .i64 d3,.int .i64 s,.int .i64 t,.slice ao m cap,.int .i64 c] 68)).heap.size (w.alloc (.cells #[.int .i64 k,.int .i64 f,.int .i64 l,.int .i64 z,.int .i64 d0,.int .i64 d1,.int .i64 d2,.int .i64 d3,.int .i64 s,.int .i64 t,.slice ao m cap,.int .i64 c] 68)) W)):=Lib.hid (fun W hW=>⟨cell_later hW (HC.out 0 _ rfl),cell_later hW (HC.out 1 _ rfl),cell_later hW (HC.out 2 _ rfl),cell_later hW (HC.out 3 _ rfl),cell_later hW (HC.out 4 _ rfl),cell_later hW (HC.out 5 _ rfl),cell_later hW (HC.out 6 _ rfl),cell_later hW (HC.out 7 _ rfl),cell_later hW (HC.out 8 _ rfl),cell_later hW (HC.out 9 _ rfl),cell_later hW (HC.out 10 _ rfl),cell_later hW (HC.out 11 _ rfl),Lib.hid hW⟩)
  clear hX hr hn
  unfold slotsV at HM
  go_enter Tryz.func102,Tryz.ntmps102
  go_wp2_with fail
  go_upto_region 1 with fail
  go_cut [3] from 7 (fun s3 wx=>∃ g:Nat,s3=.pointer (some ⟨g,0,none⟩)∧Hid (HalfAt wx g ⟨k,f,l,z,d0,d1,d2,d3,s,t,x,c⟩)∧Hid (Below w.heap.size w wx))
  case first=>
    refine wp_region_held_drew (S:=(fun W=>W.cell? ⟨w.heap.size,0,none⟩=some (.int .i64 k)∧W.cell? ⟨w.heap.size,1,none⟩=some (.int .i64 f)∧W.cell? ⟨w.heap.size,2,none⟩=some (.int .i64 l)∧W.cell? ⟨w.heap.size,3,none⟩=some (.int .i64 z)∧W.cell? ⟨w.heap.size,4,none⟩=some (.int .i64 d0)∧W.cell? ⟨w.heap.size,5,none⟩=some (.int .i64 d1)∧W.cell? ⟨w.heap.size,6,none⟩=some (.int .i64 d2)∧W.cell? ⟨w.heap.size,7,none⟩=some (.int .i64 d3)∧W.cell? ⟨w.heap.size,8,none⟩=some (.int .i64 s)∧W.cell? ⟨w.heap.size,9,none⟩=some (.int .i64 t)∧W.cell? ⟨w.heap.size,10,none⟩=some (.slice ao m cap)∧W.cell? ⟨w.heap.size,11,none⟩=some (.int .i64 c)∧Hid (Below (w.alloc (.cells #[.int .i64 k,.int .i64 f,.int .i64 l,.int .i64 z,.int .i64 d0,.int .i64 d1,.int .i64 d2,.int .i64 d3,.int .i64 s,.int .i64 t,.slice ao m cap,.int .i64 c] 68)).heap.size (w.alloc (.cells #[.int .i64 k,.int .i64 f,.int .i64 l,.int .i64 z,.int .i64 d0,.int .i64 d1,.int .i64 d2,.int .i64 d3,.int .i64 s,.int .i64 t,.slice ao m cap,.int .i64 c] 68)) W))) (by kernel_rfl) (HK.out _ (Below.refl _ _).drew) (fun hHeld=>?_)
    refine wpAnyH_take (i:=0) (oi:=⟨some 7,_,_,_,_,_⟩) (v:=?_) rfl (by kernel_rfl) (by kernel_rfl) (by kernel_rfl) (fun _ _ _ h=>h) (Or.inl ⟨by rfl,?_⟩) (by assumption) ?_
    rotate_left 1
    · (intro w hSw;(try dsimp only at hSw);go_simp);try (with_reducible rfl)
    try simp only [Act.put,List.setIfInBounds_toArray,List.set_cons_zero,List.set_cons_succ]
    refine wpAnyH_take (i:=1) (oi:=⟨some 8,_,_,_,_,_⟩) (v:=?_) rfl (by kernel_rfl) (by kernel_rfl) (by kernel_rfl) (fun _ _ _ h=>h) (Or.inl ⟨by rfl,?_⟩) (by assumption) ?_
    rotate_left 1
    · (intro w hSw;(try dsimp only at hSw);go_simp);try (with_reducible rfl)
    try simp only [Act.put,List.setIfInBounds_toArray,List.set_cons_zero,List.set_cons_succ]
    refine wpAnyH_take (i:=2) (oi:=⟨some 9,_,_,_,_,_⟩) (v:=?_) rfl (by kernel_rfl) (by kernel_rfl) (by kernel_rfl) (fun _ _ _ h=>h) (Or.inl ⟨by rfl,?_⟩) (by assumption) ?_
    rotate_left 1
    · (intro w hSw;(try dsimp only at hSw);go_simp);try (with_reducible rfl)
    try simp only [Act.put,List.setIfInBounds_toArray,List.set_cons_zero,List.set_cons_succ]
    refine wpAnyH_ready (rs:=[3,5]) (by kernel_rfl) (by simp) ?_
    refine AllReadyH.cons rfl (fun K hK=>?_) ?_
    · go_simp
      go_wp2_with (go_at_call 157;refine (HM.out _ HB.out.drew).mono ?_;rintro e' w5 ⟨rfl,hb5⟩;have B5:=Lib.hid ((Below.refl (w.alloc (.cells #[.int .i64 k,.int .i64 f,.int .i64 l,.int .i64 z,.int .i64 d0,.int .i64 d1,.int .i64 d2,.int .i64 d3,.int .i64 s,.int .i64 t,.slice ao m cap,.int .i64 c] 68)).heap.size (w.alloc (.cells #[.int .i64 k,.int .i64 f,.int .i64 l,.int .i64 z,.int .i64 d0,.int .i64 d1,.int .i64 d2,.int .i64 d3,.int .i64 s,.int .i64 t,.slice ao m cap,.int .i64 c] 68))).drew.trans hb5);clear hb5)
      refine hK.out _ _ (HK.out _ B5.out) (fun hHeld=>?_)
      clear hK K
      refine wpAnyH_take (i:=4) (oi:=⟨some 11,_,_,_,_,_⟩) (v:=?_) rfl (by kernel_rfl) (by kernel_rfl) (by kernel_rfl) (fun _ _ _ h=>h) (Or.inl ⟨by rfl,?_⟩) (by assumption) ?_
      rotate_left 1
      · (intro w hSw;(try dsimp only at hSw);go_simp);try (with_reducible rfl)
      try simp only [Act.put,List.setIfInBounds_toArray,List.set_cons_zero,List.set_cons_succ]
      refine wpAnyH_ready (rs:=[5]) (by kernel_rfl) (by simp) ?_
      refine AllReadyH.cons rfl (fun K hK=>?_) AllReadyH.nil
      go_simp
      refine hK.out _ _ (HK.out _ (B5.out.alloc B5.out.size _)) (fun hHeld=>?_)
      clear hK K
      refine wpAnyH_ready (rs:=[6]) (by kernel_rfl) (by simp) ?_
      refine AllReadyH.cons (o:=⟨none,_,_,_,_,_⟩) rfl (fun K hK=>?_) AllReadyH.nil
      rw [if_pos (by rfl)]
      refine wp_store_mid _ _ _ rfl _ _ (List.toArray [.int .i64 k,.int .i64 f,.int .i64 l,.int .i64 z,.int .i64 d0,.int .i64 d1,.int .i64 d2,.int .i64 d3,.int .i64 s,.int .i64 t,.slice ao m cap,.int .i64 c,.int .i64 (slotI x 0),.int .i64 (slotI x 1),.int .i64 (slotI x 2),.int .i64 (slotI x 3),.int .i64 (slotI x 4),.int .i64 (slotI x 5),.int .i64 (slotI x 6),.int .i64 (slotI x 7),.int .i64 (slotI x 8)]) rfl rfl (there_new w5 _ _ rfl) (by kernel_rfl) (all_oneCell_toArray (by intro v hv;simp only [List.mem_cons,List.mem_nil_iff,or_false] at hv;rcases hv with rfl | rfl | rfl | rfl | rfl | rfl | rfl | rfl | rfl | rfl | rfl | rfl | rfl | rfl | rfl | rfl | rfl | rfl | rfl | rfl | rfl <;> rfl)) ?_
      try simp only [Act.put,List.setIfInBounds_toArray,List.set_cons_zero,List.set_cons_succ]
      refine hK.out _ _ (HK.out _ (below_setCells (B5.out.alloc B5.out.size _) (by exact B5.out.size) _ _)) (fun hHeld=>?_)
      clear hK K
      refine wpAnyH_done (by kernel_rfl) ?_ _
      have HH0:Hid (HalfAt ((w5.alloc (.cells #[.int .i64 0,.int .i64 0,.int .i64 0,.int .i64 0,.int .i64 0,.int .i64 0,.int .i64 0,.int .i64 0,.int .i64 0,.int .i64 0,.slice none 0 0,.int .i64 0,.int .i64 0,.int .i64 0,.int .i64 0,.int .i64 0,.int .i64 0,.int .i64 0,.int .i64 0,.int .i64 0,.int .i64 0] 206)).setCells w5.heap.size 0 [.int .i64 k,.int .i64 f,.int .i64 l,.int .i64 z,.int .i64 d0,.int .i64 d1,.int .i64 d2,.int .i64 d3,.int .i64 s,.int .i64 t,.slice ao m cap,.int .i64 c,.int .i64 (slotI x 0),.int .i64 (slotI x 1),.int .i64 (slotI x 2),.int .i64 (slotI x 3),.int .i64 (slotI x 4),.int .i64 (slotI x 5),.int .i64 (slotI x 6),.int .i64 (slotI x 7),.int .i64 (slotI x 8)]) w5.heap.size ⟨k,f,l,z,d0,d1,d2,d3,s,t,x,c⟩):=Lib.hid (half_stored (there_new w5 _ _ rfl) (⟨k,f,l,z,d0,d1,d2,d3,s,t,x,c⟩:PNode) _)
      have HBW0:Hid (Below w.heap.size w ((w5.alloc (.cells #[.int .i64 0,.int .i64 0,.int .i64 0,.int .i64 0,.int .i64 0,.int .i64 0,.int .i64 0,.int .i64 0,.int .i64 0,.int .i64 0,.slice none 0 0,.int .i64 0,.int .i64 0,.int .i64 0,.int .i64 0,.int .i64 0,.int .i64 0,.int .i64 0,.int .i64 0,.int .i64 0,.int .i64 0] 206)).setCells w5.heap.size 0 [.int .i64 k,.int .i64 f,.int .i64 l,.int .i64 z,.int .i64 d0,.int .i64 d1,.int .i64 d2,.int .i64 d3,.int .i64 s,.int .i64 t,.slice ao m cap,.int .i64 c,.int .i64 (slotI x 0),.int .i64 (slotI x 1),.int .i64 (slotI x 2),.int .i64 (slotI x 3),.int .i64 (slotI x 4),.int .i64 (slotI x 5),.int .i64 (slotI x 6),.int .i64 (slotI x 7),.int .i64 (slotI x 8)])):=Lib.hid (HB.out.trans ((below_setCells (B5.out.alloc B5.out.size _) (by exact B5.out.size) _ _).mono HB.out.size))
      clear hHeld
      generalize (w5.alloc (.cells #[.int .i64 0,.int .i64 0,.int .i64 0,.int .i64 0,.int .i64 0,.int .i64 0,.int .i64 0,.int .i64 0,.int .i64 0,.int .i64 0,.slice none 0 0,.int .i64 0,.int .i64 0,.int .i64 0,.int .i64 0,.int .i64 0,.int .i64 0,.int .i64 0,.int .i64 0,.int .i64 0,.int .i64 0] 206)).setCells w5.heap.size 0 [.int .i64 k,.int .i64 f,.int .i64 l,.int .i64 z,.int .i64 d0,.int .i64 d1,.int .i64 d2,.int .i64 d3,.int .i64 s,.int .i64 t,.slice ao m cap,.int .i64 c,.int .i64 (slotI x 0),.int .i64 (slotI x 1),.int .i64 (slotI x 2),.int .i64 (slotI x 3),.int .i64 (slotI x 4),.int .i64 (slotI x 5),.int .i64 (slotI x 6),.int .i64 (slotI x 7),.int .i64 (slotI x 8)]=W1 at *
      go_wp2_with fail
      go_meet
      case rel=>exact ⟨w5.heap.size,rfl,HH0,HBW0⟩
    · refine AllReadyH.cons rfl (fun K hK=>?_) AllReadyH.nil
      go_simp
      refine hK.out _ _ (HK.out _ BA.out) (fun hHeld=>?_)
      clear hK K
      refine wpAnyH_ready (rs:=[3]) (by kernel_rfl) (by simp) ?_
      refine AllReadyH.cons rfl (fun K hK=>?_) AllReadyH.nil
      go_simp
      go_wp2_with (go_at_call 157;refine (HM.out _ (HB.out.trans (BA.out.mono HB.out.size))).mono ?_;rintro e' w5 ⟨rfl,hb5⟩;have B5:=Lib.hid (BA.out.trans (hb5.mono BA.out.size));have ML:=made_later hb5;rw [World.size_alloc] at ML;have HML:=Lib.hid ML;clear ML hb5)
      refine hK.out _ _ (HK.out _ B5.out) (fun hHeld=>?_)
      clear hK K
      refine wpAnyH_take (i:=4) (oi:=⟨some 11,_,_,_,_,_⟩) (v:=?_) rfl (by kernel_rfl) (by kernel_rfl) (by kernel_rfl) (fun _ _ _ h=>h) (Or.inl ⟨by rfl,?_⟩) (by assumption) ?_
      rotate_left 1
      · (intro w hSw;(try dsimp only at hSw);go_simp);try (with_reducible rfl)
      try simp only [Act.put,List.setIfInBounds_toArray,List.set_cons_zero,List.set_cons_succ]
      refine wpAnyH_ready (rs:=[6]) (by kernel_rfl) (by simp) ?_
      refine AllReadyH.cons (o:=⟨none,_,_,_,_,_⟩) rfl (fun K hK=>?_) AllReadyH.nil
      rw [if_pos (by rfl)]
      refine wp_store_mid _ _ _ rfl _ _ (List.toArray [.int .i64 k,.int .i64 f,.int .i64 l,.int .i64 z,.int .i64 d0,.int .i64 d1,.int .i64 d2,.int .i64 d3,.int .i64 s,.int .i64 t,.slice ao m cap,.int .i64 c,.int .i64 (slotI x 0),.int .i64 (slotI x 1),.int .i64 (slotI x 2),.int .i64 (slotI x 3),.int .i64 (slotI x 4),.int .i64 (slotI x 5),.int .i64 (slotI x 6),.int .i64 (slotI x 7),.int .i64 (slotI x 8)]) rfl rfl (there_made HML.out rfl) (by kernel_rfl) (all_oneCell_toArray (by intro v hv;simp only [List.mem_cons,List.mem_nil_iff,or_false] at hv;rcases hv with rfl | rfl | rfl | rfl | rfl | rfl | rfl | rfl | rfl | rfl | rfl | rfl | rfl | rfl | rfl | rfl | rfl | rfl | rfl | rfl | rfl <;> rfl)) ?_
      try simp only [Act.put,List.setIfInBounds_toArray,List.set_cons_zero,List.set_cons_succ]
      refine hK.out _ _ (HK.out _ (below_setCells B5.out (by simp) _ _)) (fun hHeld=>?_)
      clear hK K
      refine wpAnyH_done (by kernel_rfl) ?_ _
      have HH0:Hid (HalfAt ((w5).setCells (w.heap.size+1) 0 [.int .i64 k,.int .i64 f,.int .i64 l,.int .i64 z,.int .i64 d0,.int .i64 d1,.int .i64 d2,.int .i64 d3,.int .i64 s,.int .i64 t,.slice ao m cap,.int .i64 c,.int .i64 (slotI x 0),.int .i64 (slotI x 1),.int .i64 (slotI x 2),.int .i64 (slotI x 3),.int .i64 (slotI x 4),.int .i64 (slotI x 5),.int .i64 (slotI x 6),.int .i64 (slotI x 7),.int .i64 (slotI x 8)]) (w.heap.size+1) ⟨k,f,l,z,d0,d1,d2,d3,s,t,x,c⟩):=Lib.hid (half_stored (there_made HML.out rfl) (⟨k,f,l,z,d0,d1,d2,d3,s,t,x,c⟩:PNode) _)
      have HBW0:Hid (Below w.heap.size w ((w5).setCells (w.heap.size+1) 0 [.int .i64 k,.int .i64 f,.int .i64 l,.int .i64 z,.int .i64 d0,.int .i64 d1,.int .i64 d2,.int .i64 d3,.int .i64 s,.int .i64 t,.slice ao m cap,.int .i64 c,.int .i64 (slotI x 0),.int .i64 (slotI x 1),.int .i64 (slotI x 2),.int .i64 (slotI x 3),.int .i64 (slotI x 4),.int .i64 (slotI x 5),.int .i64 (slotI x 6),.int .i64 (slotI x 7),.int .i64 (slotI x 8)])):=Lib.hid (HB.out.trans ((below_setCells B5.out (by simp) _ _).mono HB.out.size))
      clear hHeld
      generalize (w5).setCells (w.heap.size+1) 0 [.int .i64 k,.int .i64 f,.int .i64 l,.int .i64 z,.int .i64 d0,.int .i64 d1,.int .i64 d2,.int .i64 d3,.int .i64 s,.int .i64 t,.slice ao m cap,.int .i64 c,.int .i64 (slotI x 0),.int .i64 (slotI x 1),.int .i64 (slotI x 2),.int .i64 (slotI x 3),.int .i64 (slotI x 4),.int .i64 (slotI x 5),.int .i64 (slotI x 6),.int .i64 (slotI x 7),.int .i64 (slotI x 8)]=W1 at *
      go_wp2_with fail
      go_meet
      case rel=>exact ⟨(w.heap.size+1),rfl,HH0,HBW0⟩
  case rest=>
    obtain ⟨g,rfl,HH,HBW⟩:=hcut
    clear HK BA HM HC
    have hmk:=run_make_bytes wc 64 (by decide)
    rw [show ((64:Nat):Int)=64 from rfl] at hmk
    have hA0:=made_arg wc 64 (by decide)
    have hB1:Below wc.heap.size wc (wc.alloc (.cells (madeCells #[.int .u8 0] 64) 5)):=(Below.refl _ _).alloc (Nat.le_refl _) _
    have hF0:=(made_own wc 64).fresh (cap:=64) (by decide) (by decide)
    generalize hw2:wc.alloc (.cells (madeCells #[.int .u8 0] 64) 5)=W2 at *
    have HF2:Hid (Fresh W2 w.heap.size (.slice (some ⟨wc.heap.size,0,none⟩) 64 64) zeros64n):=Lib.hid (by
      rw [List.length_replicate] at hF0
      exact hF0.mono HBW.out.size)
    have HW2:=Lib.hid hw2
    have HB1:=Lib.hid hB1
    clear hw2 hA0 hB1 hF0
    have HBW2:=Lib.hid (HBW.out.trans (HB1.out.mono HBW.out.size))
    have HH2:=Lib.hid (HH.out.later HB1.out)
    obtain ⟨N,hN⟩:∃ N,(headPs9 ++ bodyPs f).length=N:=⟨_,rfl⟩
    have HN:=Lib.hid hN
    have hNle:N≤1000:=by rw [← hN,List.length_append];exact HLEN.out
    clear hN
    go_wp2_with (first
      | (go_at_call 145;refine (head9_any g _).mono ?_;rintro e' w6 ⟨v6,rfl,hp6,hb6⟩;have P6:=Lib.hid hp6;have B6:=Lib.hid hb6;have f6:=(HH2.out.later hb6) 1 (by decide) (by decide);clear hp6 hb6)
      | (go_at_call 146;refine (body9_any g f _ f6).mono ?_;rintro e' w7 ⟨v7,rfl,hp7,hn7,hb7⟩;have B7:=Lib.hid (B6.out.trans (hb7.mono B6.out.size));have P7:=Lib.hid (places_later P6.out hb7);have Q7:=Lib.hid hp7;have N7:=Lib.hid hn7;clear hp7 hn7 hb7 f6)
      | (at_builtin;refine wp_append_pl rfl (.tmp 13) (.tmp 14) rfl W2.heap.size w6.heap.size g v6 v7 headPs9 (bodyPs f) rfl rfl P7.out Q7.out N7.out (HLEN.out) (B7.out.size) ?_;intro v8 w8 hp8 hb8;obtain ⟨gp,cp,hv8,hgp,hpl⟩:=hp8.at (by rw [List.length_append];show 0 < 4+_;omega);rw [HN.out] at hv8;subst hv8;have PLC:=Lib.hid hpl;have B8:=Lib.hid (B7.out.trans hb8);clear hgp hpl hp8 hb8))
    have HB8:=Lib.hid (HBW2.out.trans (B8.out.mono HBW2.out.size))
    have HH8:=Lib.hid (HH2.out.later B8.out)
    have HF8:=Lib.hid (HF2.out.later B8.out)
    have HOK:Hid (∀ p ∈ headPs9 ++ bodyPs f,okPl p):=Lib.hid (fun p hp=>by
      rcases List.mem_append.1 hp with h | h
      · exact okPl_head p h
      · exact okPl_body f p h)
    generalize headPs9 ++ bodyPs f=ps at *
    go_loopw [4,17] (fun bv iv wr=>∃ i:Nat,iv=.int .i64 (i:Int)∧i≤N∧Hid (Fresh wr w.heap.size bv (wrt9 (valOf ⟨k,f,l,z,d0,d1,d2,d3,s,t,x,c⟩) zeros64n (ps.take i)))∧Hid (Below w8.heap.size w8 wr)) (fun _ iv _=>N - (intOf iv).toNat)
    case atStart=>exact ⟨0,rfl,Nat.zero_le _,HF8,Lib.hid (Below.refl _ _)⟩
    case round=>
      obtain ⟨i,rfl,hi,HF,HBR⟩:=hrel
      by_cases hlt:i < N
      · obtain ⟨p,hp⟩:∃ p,ps[i]?=some p:=⟨_,List.getElem?_eq_getElem (by rw [HN.out];exact hlt)⟩
        have hok:=HOK.out p (List.mem_of_getElem? hp)
        obtain ⟨c1,c2,c3⟩:=PLC.out i p hp
        have HS:Hid (wrt9 (valOf ⟨k,f,l,z,d0,d1,d2,d3,s,t,x,c⟩) zeros64n (ps.take (i+1))=setOut (wrt9 (valOf ⟨k,f,l,z,d0,d1,d2,d3,s,t,x,c⟩) zeros64n (ps.take i)) p.1 p.2.1 (valOf ⟨k,f,l,z,d0,d1,d2,d3,s,t,x,c⟩ p.2.2)):=Lib.hid (by
          rw [List.take_add_one,hp]
          exact wrt9_snoc _ _ _ _)
        obtain ⟨a,b,o⟩:=p
        obtain ⟨h0,h1,h2,h3,h4,h5⟩:=hok
        simp only at *
        have c4:=HH8.out o h4 h5
        have hxi:=HVAL.out o
        generalize valOf ⟨k,f,l,z,d0,d1,d2,d3,s,t,x,c⟩ o=y at *
        generalize wrt9 (valOf ⟨k,f,l,z,d0,d1,d2,d3,s,t,x,c⟩) zeros64n (ps.take i)=L at *
        obtain ⟨bo,cap',rfl,hA⟩:=fresh_form9 HF.out
        have d1:=cell_later HBR.out c1
        have d2:=cell_later HBR.out c2
        have d3:=cell_later HBR.out c3
        have d4:=cell_later HBR.out c4
        have HCS:Hid (∀ W,Below wr.heap.size wr W→Calls Tryz.prog 138 #[.slice bo L.length cap',.int .i64 a,.int .i64 b,.int .i64 y] W (Handed W.heap.size W (setOut L a b y) (setErr L.length a b y))):=
          Lib.hid (fun W hW=>fSet_any bo L.length cap' L a b y W (hA.later hW) (by omega) (by omega) hxi)
        have HNB:Hid (Below wr.heap.size wr (wr.alloc (.cells #[.int .i64 a,.int .i64 b,.pointer (some ⟨g,o,none⟩)] 218)).drew):=Lib.hid ((Below.refl _ _).alloc (Nat.le_refl _) _).drew
        have HKK:Hid (∀ W,Below (wr.alloc (.cells #[.int .i64 a,.int .i64 b,.pointer (some ⟨g,o,none⟩)] 218)).drew.heap.size (wr.alloc (.cells #[.int .i64 a,.int .i64 b,.pointer (some ⟨g,o,none⟩)] 218)).drew W→W.cell? ⟨wr.heap.size,0,none⟩=some (.int .i64 a)∧W.cell? ⟨wr.heap.size,1,none⟩=some (.int .i64 b)∧W.cell? ⟨wr.heap.size,2,none⟩=some (.pointer (some ⟨g,o,none⟩))∧W.cell? ⟨g,o,none⟩=some (.int .i64 y)∧Hid (Below wr.heap.size wr W)):=Lib.hid (fun W hW=>
          ⟨cell_later hW (new_cell9 wr _ _ _ _ rfl),cell_later hW (new_cell9 wr _ _ _ _ rfl),cell_later hW (new_cell9 wr _ _ _ _ rfl),cell_later hW (cell_later HNB.out d4),Lib.hid (HNB.out.trans (hW.mono HNB.out.size))⟩)
        have HZB:Hid (w.heap.size≤wr.heap.size):=Lib.hid (Nat.le_trans HB8.out.size HBR.out.size)
        have i1:(i:Int) < (N:Int):=by omega
        generalize L.length=len at *
        clear hp c1 c2 c3 c4 hA hxi h0 h1 h2 h3 h4 h5
        go_wp2_with fail
        go_region_held (fun W=>W.cell? ⟨wr.heap.size,0,none⟩=some (.int .i64 a)∧W.cell? ⟨wr.heap.size,1,none⟩=some (.int .i64 b)∧W.cell? ⟨wr.heap.size,2,none⟩=some (.pointer (some ⟨g,o,none⟩))∧W.cell? ⟨g,o,none⟩=some (.int .i64 y)∧Hid (Below wr.heap.size wr W)) (first | exact HKK.out _ (Below.refl _ _) | exact HKK.out _ B5.out)
          (first | (go_at_call 138;refine (HCS.out _ HNB.out).mono ?_;rintro e' w5 ⟨v5,rfl,hf5,hb5⟩;have F5:=Lib.hid hf5;have B5:=Lib.hid hb5;clear hf5 hb5))
        go_wp2_with fail
        go_roundw
        case rel=>exact ⟨i+1,by go_num,by omega,Lib.hid (by rw [HS.out];exact F5.out.mono (Nat.le_trans HZB.out HNB.out.size)),Lib.hid ((HBR.out.trans (HNB.out.mono HBR.out.size)).trans (B5.out.mono (Nat.le_trans HBR.out.size HNB.out.size)))⟩
        case measure=>simp [intOf];omega
      · have hin:i=N:=by omega
        subst hin
        have HT:Hid (ps.take i=ps):=Lib.hid (by rw [← HN.out];exact List.take_length)
        rw [HT.out] at HF
        obtain ⟨L,hL⟩:∃ L,wrt9 (valOf ⟨k,f,l,z,d0,d1,d2,d3,s,t,x,c⟩) zeros64n ps=L:=⟨_,rfl⟩
        have HLE:=Lib.hid hL
        rw [hL] at HF HW64 ⊢
        obtain ⟨bo,cap',rfl,hA⟩:=fresh_form9 HF.out
        rw [HW64.out] at hA ⊢
        obtain ⟨gb,ob,rfl,_⟩:=hA.1.2.2.2.resolve_left (by decide)
        have hcap:=hA.2.2.1
        have hB28:=bts_take hA.1 (k:=28) (by decide)
        have cS:=Sum_any (some ⟨gb,ob,none⟩) 28 cap' (L.take 28) wr hB28
        have hsb:=sumS_bounds (L.take 28)
        have HTB:=Lib.hid (Nat.le_trans HB8.out.size HBR.out.size)
        have HBB:=Lib.hid (HB8.out.trans (HBR.out.mono HB8.out.size))
        obtain ⟨S,hS⟩:∃ S,sumS (L.take 28)=S:=⟨_,rfl⟩
        rw [hS] at cS hsb
        have HSE:=Lib.hid hS
        clear hS
        have cF:=fSet_any (some ⟨gb,ob,none⟩) 64 cap' L 28 4 S wr hA (by decide) (by decide) (by omega)
        have h28:(28:Int)≤(cap':Int):=by omega
        have HA64:=Lib.hid (setErr_fits (n:=S) (by omega))
        obtain ⟨M,hM⟩:∃ M,setOut L 28 4 S=M:=⟨_,rfl⟩
        have HME:=Lib.hid hM
        rw [hM] at cF
        have HML:Hid (M.length=64):=Lib.hid (by rw [← hM];exact setOut_length (by rw [HW64.out];exact HA64.out))
        have hw:IntKind.i64.wrap S=S:=by rw [IntKind.wrap_i64];omega
        clear hA hB28 hL hM
        go_wp2_with (first
          | (go_at_call 143;refine cS.mono ?_;rintro e' w5 ⟨rfl,rfl⟩)
          | (go_at_call 138;refine cF.mono ?_;rintro e' w5 ⟨v5,rfl,hf5,hb5⟩;obtain ⟨b5,c5,rfl,hA5⟩:=fresh_form9 hf5;rw [HML.out] at hA5 ⊢;obtain ⟨g5,o5,rfl,_⟩:=hA5.1.2.2.2.resolve_left (by decide);have hcap5:(32:Int)≤(c5:Int):=(by (have:=hA5.2.2.1;omega));have HA5:Hid (Arg w5 (some ⟨g5,o5,none⟩) 32 c5 (M.take 32)):=Lib.hid ⟨bts_take hA5.1 (by decide),(fun h=>by cases h),(by have:=hA5.2.2.1;omega),by decide⟩;have B5:=Lib.hid hb5;clear hf5 hb5 hA5)
          | (go_at_call 158;refine (clone_any _ 32 _ (M.take 32) _ HA5.out).mono ?_;rintro e' w9 ⟨v9,rfl,hf9,hb9⟩;have F9:=Lib.hid hf9;have B9:=Lib.hid (B5.out.trans (hb9.mono B5.out.size));have Z9:=Lib.hid B5.out.size;clear hf9 hb9))
        go_ret
        exact ⟨v9,rfl,by rw [HLE.out,HSE.out,HME.out];exact F9.out.mono (Nat.le_trans HTB.out Z9.out),HBB.out.trans (B9.out.mono HTB.out)⟩
end Go.Proofs.YtcefmpnijjcekaaGreatDoor
namespace Go.Proofs.YtcefmpnijjcekaaGreatDoor
open Go.RowKit
def gotV (zs:List Int) (ps:List Pl) (V:Nat→Int):Nat→Int:=ps.foldl (fun V p o=>if o=p.2.2 then getOut zs p.1 p.2.1 else V o) V
theorem gotV_snoc (zs:List Int) (ps:List Pl) (p:Pl) (V:Nat→Int):gotV zs (ps ++ [p]) V=fun o=>if o=p.2.2 then getOut zs p.1 p.2.1 else gotV zs ps V o:=by
  unfold gotV;rw [List.foldl_append];rfl
def Rd9 (w0:World) (g:Nat) (V:Nat→Int) (wr:World):Prop:=
  Below w0.heap.size w0 wr∧(∀ o,o < 21→o≠10→wr.cell? ⟨g,o,none⟩=some (.int .i64 (V o)))∧wr.cell? ⟨g,10,none⟩=some (.slice none 0 0)∧∀ j,wr.frozen? ⟨g,j,none⟩=false
theorem Rd9.lt {w0 wr:World} {g:Nat} {V:Nat→Int} (h:Rd9 w0 g V wr):g < wr.heap.size:=World.block_lt_of_cell? _ _ h.2.2.1
theorem Rd9.later {w0 wr wx:World} {g:Nat} {V:Nat→Int} (h:Rd9 w0 g V wr) (hb:Below wr.heap.size wr wx):Rd9 w0 g V wx:=
  ⟨h.1.trans (hb.mono h.1.size),fun o h1 h2=>cell_later hb (h.2.1 o h1 h2),cell_later hb h.2.2.1,fun j=>by rw [hb.frozen (p:=⟨g,j,none⟩) h.lt];exact h.2.2.2 j⟩
theorem Rd9.alloc {w0 wr:World} {g:Nat} {V:Nat→Int} (h:Rd9 w0 g V wr) (o:Obj):Rd9 w0 g V (wr.alloc o):=h.later ((Below.refl _ _).alloc (Nat.le_refl _) _)
theorem Rd9.step {w0 wr:World} {g k:Nat} {V:Nat→Int} (h:Rd9 w0 g V wr) (hg:w0.heap.size≤g) (hk:k < 21) (hk10:k≠10) (x:Int):Rd9 w0 g (fun o=>if o=k then x else V o) (wr.setCell ⟨g,k,none⟩ (.int .i64 x)):=by
  refine ⟨h.1.setCell (p:=⟨g,k,none⟩) hg _,fun o ho hne=>?_,?_,fun j=>by simpa using h.2.2.2 j⟩
  · show (wr.setCell ⟨g,k,none⟩ (.int .i64 x)).cell? ⟨g,o,none⟩=some (.int .i64 (if o=k then x else V o))
    by_cases e:o=k
    · subst e
      rw [if_pos rfl]
      exact World.cell?_setCell_same wr _ _ (h.2.1 o ho hne)
    · rw [if_neg e,World.cell?_setCell_other (h:=by intro e';exact e (by simpa using (congrArg Addr.off e').symm))]
      exact h.2.1 o ho hne
  · rw [World.cell?_setCell_other (h:=by intro e';exact hk10 (by simpa using congrArg Addr.off e'))]
    exact h.2.2.1
theorem Rd9.drew {w0 wr:World} {g:Nat} {V:Nat→Int} (h:Rd9 w0 g V wr):Rd9 w0 g V wr.drew:=⟨h.1.drew,fun o h1 h2=>h.2.1 o h1 h2,h.2.2.1,fun j=>h.2.2.2 j⟩
theorem PlcAt.set {wr:World} {gp g k:Nat} {ps:List Pl} {v:Value} (h:PlcAt wr gp g ps) (hne:gp≠g):PlcAt (wr.setCell ⟨g,k,none⟩ v) gp g ps:=fun i p hp=>by
  obtain ⟨h1,h2,h3⟩:=h i p hp
  refine ⟨?_,?_,?_⟩
  all_goals rw [World.cell?_setCell_other (h:=by intro e;exact hne (by simpa using (congrArg Addr.block e).symm))]
  · exact h1
  · exact h2
  · exact h3
theorem PlcAt.drew {wr:World} {gp g:Nat} {ps:List Pl} (h:PlcAt wr gp g ps):PlcAt wr.drew gp g ps:=h
def PlArg (w:World) (g:Nat) (v:Value) (ps:List Pl):Prop:=∃ gp cp,gp≠g∧(ps=[]∧v=.slice none 0 0∨v=.slice (some ⟨gp,0,none⟩) ps.length cp∧PlcAt w gp g ps)
set_option maxRecDepth 100000 in
set_option maxHeartbeats 6400000 in
theorem getPl_any (ao:Option Addr) (cap:Nat) (zs:List Int) (gp cp g n:Nat) (ps:List Pl) (V:Nat→Int) (w0 w:World) (hA:Arg w0 ao 64 cap zs) (hn:ps.length=n) (hn1000:n≤1000) (hps:∀ p ∈ ps,okPl p) (hg:w0.heap.size≤g) (hne:gp≠g) (hp:PlcAt w gp g ps) (h:Rd9 w0 g V w) :
    Calls Tryz.prog 144 #[.slice ao 64 cap,.slice (some ⟨gp,0,none⟩) n cp] w fun e w'=>e=.returned (.tuple #[])∧Rd9 w0 g (gotV zs ps V) w':=by
  have HA:=Lib.hid hA
  have HPS:=Lib.hid hps
  have H0:=Lib.hid h
  have HP0:=Lib.hid hp
  clear hA hps h hp
  go_enter Tryz.func144,Tryz.ntmps144
  go_wp2_with fail
  go_loopw [8] (fun iv wr=>∃ i:Nat,iv=.int .i64 (i:Int)∧i≤n∧Hid (Rd9 w0 g (gotV zs (ps.take i) V) wr)∧Hid (PlcAt wr gp g ps)) (fun iv _=>n - (intOf iv).toNat)
  case atStart=>exact ⟨0,rfl,Nat.zero_le _,H0,HP0⟩
  case round=>
    obtain ⟨i,rfl,hi,HR,HP⟩:=hrel
    by_cases hlt:i < n
    · obtain ⟨p,hpi⟩:∃ p,ps[i]?=some p:=⟨_,List.getElem?_eq_getElem (by omega)⟩
      have hok:=HPS.out p (List.mem_of_getElem? hpi)
      obtain ⟨c1,c2,c3⟩:=HP.out i p hpi
      have HS:Hid (gotV zs (ps.take (i+1)) V=fun o=>if o=p.2.2 then getOut zs p.1 p.2.1 else gotV zs (ps.take i) V o):=Lib.hid (by
        rw [List.take_add_one,hpi]
        exact gotV_snoc _ _ _ _)
      obtain ⟨a,b,k⟩:=p
      obtain ⟨h0,h1,h2,h3,h4,h5⟩:=hok
      simp only at *
      have c4:=HR.out.2.1 k h4 h5
      have hgr:=HR.out.lt
      have HO:Hid (∀ o:Obj,Rd9 w0 g (gotV zs (ps.take (i+1)) V) ((wr.alloc o).setCell ⟨g,k,none⟩ (.int .i64 (getOut zs a b))).drew):=Lib.hid (fun o=>by
        rw [HS.out]
        exact ((HR.out.alloc o).step hg h4 h5 _).drew)
      have HPO:Hid (∀ (o:Obj) (v:Value),PlcAt ((wr.alloc o).setCell ⟨g,k,none⟩ v).drew gp g ps):=Lib.hid (fun o v=>((HP.out.later ((Below.refl _ _).alloc (Nat.le_refl _) _)).set hne).drew)
      have HG:Hid (∀ W,Below w0.heap.size w0 W→Calls Tryz.prog 141 #[.slice ao 64 cap,.int .i64 a,.int .i64 b] W (fun e w'=>e=.returned (.tuple #[.int .i64 (getOut zs a b),.int .i64 (fErr 64 a b)])∧w'=W)):=
        Lib.hid (fun W hW=>(fGet_any ao 64 cap zs a b W (HA.out.later hW) (by omega) (by omega)).mono (fun e w' h=>⟨h.1,h.2.symm⟩))
      have HN:Hid (Below w0.heap.size w0 (wr.alloc (.cells #[.int .i64 a,.int .i64 b,.pointer (some ⟨g,k,none⟩)] 218)).drew):=Lib.hid (HR.out.1.trans (((Below.refl _ _).alloc (Nat.le_refl _) _).drew.mono HR.out.1.size))
      have e4:(wr.alloc (.cells #[.int .i64 a,.int .i64 b,.pointer (some ⟨g,k,none⟩)] 218)).cell? ⟨g,k,none⟩=some (.int .i64 (gotV zs (ps.take i) V k)):=cell_later ((Below.refl _ _).alloc (Nat.le_refl _) _) c4
      have f4:(wr.alloc (.cells #[.int .i64 a,.int .i64 b,.pointer (some ⟨g,k,none⟩)] 218)).frozen? ⟨g,k,none⟩=false:=(HR.out.alloc _).2.2.2 k
      have i1:(i:Int) < (n:Int):=by omega
      generalize getOut zs a b=x at *
      generalize fErr 64 a b=E at *
      generalize gotV zs (ps.take i) V k=y at *
      clear hpi c4 hgr h0 h1 h2 h3 h4 h5 HS
      go_wp2_with fail
      go_region_with (go_at_call 141;refine (HG.out _ HN.out).mono ?_;rintro e w5 ⟨rfl,rfl⟩)
      all_goals go_wp2_with fail
      all_goals go_roundw
      all_goals first
        | (exact ⟨i+1,by go_num,by omega,Lib.hid (HO.out _),Lib.hid (HPO.out _ _)⟩)
        | (simp [intOf];omega)
    · have hin:i=n:=by omega
      subst hin
      have HT:Hid (ps.take i=ps):=Lib.hid (by rw [← hn];exact List.take_length)
      go_wp2_with fail
      go_end0
      rw [HT.out] at HR
      exact ⟨rfl,HR.out⟩
theorem getNil_any (ao:Option Addr) (cap:Nat) (w:World) :
    Calls Tryz.prog 144 #[.slice ao 64 cap,.slice none 0 0] w fun e w'=>e=.returned (.tuple #[])∧w'=w:=by
  go_enter Tryz.func144,Tryz.ntmps144
  go_wp2_with fail
  go_loopw [8] (fun iv wr=>iv=.int .i64 0∧wr=w) (fun iv _=>0)
  case atStart=>exact ⟨rfl,rfl⟩
  case round=>
    obtain ⟨rfl,rfl⟩:=hrel
    go_wp2_with fail
    go_end0
    exact ⟨rfl,rfl⟩
theorem get9_any (ao:Option Addr) (cap:Nat) (zs:List Int) (g:Nat) (v:Value) (ps:List Pl) (V:Nat→Int) (w0 w:World) (hA:Arg w0 ao 64 cap zs) (hn:ps.length≤1000) (hps:∀ p ∈ ps,okPl p) (hg:w0.heap.size≤g) (hp:PlArg w g v ps) (h:Rd9 w0 g V w) :
    Calls Tryz.prog 144 #[.slice ao 64 cap,v] w fun e w'=>e=.returned (.tuple #[])∧Rd9 w0 g (gotV zs ps V) w':=by
  obtain ⟨gp,cp,hne,⟨rfl,rfl⟩ | ⟨rfl,hpl⟩⟩:=hp
  · exact (getNil_any ao cap w).mono (fun e w' ⟨h1,h2⟩=>⟨h1,by rw [h2];exact h⟩)
  · exact getPl_any ao cap zs gp cp g _ ps V w0 w hA rfl hn hps hg hne hpl h
theorem Places.arg {w:World} {base g:Nat} {v:Value} {ps:List Pl} (h:Places w base g v ps) (hg:g < base) (hnil:ps=[]→v=.slice none 0 0):PlArg w g v ps:=by
  by_cases h0:ps=[]
  · exact ⟨g+1,0,by omega,Or.inl ⟨h0,hnil h0⟩⟩
  · obtain ⟨gp,cap,hv,hb,hpl⟩:=h.at (List.length_pos_iff.2 h0)
    exact ⟨gp,cap,by omega,Or.inr ⟨hv,hpl⟩⟩
end Go.Proofs.YtcefmpnijjcekaaGreatDoor
