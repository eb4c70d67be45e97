/- Proved here: what the document's own Open of layer 17 answers of a volume's blocks, up to its nodes. The conditions stand at each theorem. Proved here: what the document's own Open of layer 17 answers of any blocks; what its Limit and its Free answer. The conditions stand at each theorem. Proved here: what the document's own Free of layer 17 answers. The conditions stand at .. -/
import Derived.Test.YtcefmpnijjcekaaGreatDoorTk24
import Derived.Test.YtcefmpnijjcekaaGreatDoorTk12
import Derived.Test.YtcefmpnijjcekaaGreatDoorTk22
import Derived.Test.YtcefmpnijjcekaaGreatDoorTk9
import Derived.Test.YtcefmpnijjcekaaGreatDoorTk23
import Derived.Test.YtcefmpnijjcekaaGreatDoorRows
import Derived.JoinedCond
import Derived.KernelRfl
set_option linter.unusedVariables false
set_option linter.unusedSimpArgs false
namespace Go.Proofs.YtcefmpnijjcekaaGreatDoor
open Go.RowKit
theorem rop_start {w w6 w7:World} {gu cu m c:Nat} {s:PSup} {fl:List Int} {bo:Option Addr} {u:Value} (hr:w6.rangeAt w.heap.size 0 [.int .i64 s.a,.int .i64 s.b,.int .i64 s.c,.int .i64 s.d,.int .i64 s.e]) (h6:w6.cell? ⟨w.heap.size,6,none⟩=some (.slice none 0 0)) (h7:w6.cell? ⟨w.heap.size,7,none⟩=some (.slice bo m c))
    (hz:∀ j,w6.frozen? ⟨w.heap.size,j,none⟩=false) (h5:w6.cell? ⟨w.heap.size,5,none⟩=some u) (hu:OwnV w6.heap.size w6 gu (boolsV (flag fl) 480) w7) (hb:Below w6.heap.size w6 w7) (hw:Below w.heap.size w w6) :
    ROp w w7.heap.size w.heap.size gu cu s fl bo m c 0 (.slice none 0 0) (w7.setCell ⟨w.heap.size,5,none⟩ (.slice (some ⟨gu,0,none⟩) 480 cu)):=by
  have hp:=World.block_lt_of_cell? _ _ h5
  dsimp only at hp
  have hc:∀ j,w7.cell? ⟨w.heap.size,j,none⟩=w6.cell? ⟨w.heap.size,j,none⟩:=fun j=>hb.cell (p:=⟨w.heap.size,j,none⟩) hp
  have hc5:∀ j,j≠5→(w7.setCell ⟨w.heap.size,5,none⟩ (.slice (some ⟨gu,0,none⟩) 480 cu)).cell? ⟨w.heap.size,j,none⟩=w6.cell? ⟨w.heap.size,j,none⟩:=fun j hj=>by
    rw [World.cell?_setCell_other (h:=by intro e;simp at e <;> omega),hc]
  have hgu:w6.heap.size≤gu:=hu.2.2.1
  have hbo:∀ j,j < 480→w7.cell? ⟨gu,j,none⟩=some (.bool (flag fl j)):=fun j hj=>hu.1 j _ (by unfold boolsV;rw [List.getElem?_map,List.getElem?_range hj];rfl)
  have hgl:gu < w7.heap.size:=World.block_lt_of_cell? _ _ (hbo 0 (by decide))
  refine ⟨fun j v hv=>?_,?_,fun j hj=>?_,by rw [hc5 6 (by decide)];exact h6,by rw [hc5 7 (by decide)];exact h7,fun j=>?_,⟨[],owns_nil_r _ _ _ _⟩,⟨?_,hgl,by omega,?_,Nat.le_refl _⟩,?_⟩
  · have hl:=(List.getElem?_eq_some_iff.1 hv).1
    simp only [List.length_cons,List.length_nil] at hl
    rw [hc5 (0+j) (by omega)]
    exact hr j v hv
  · rw [World.cell?_setCell_same w7 _ _ ((hc 5).trans h5)]
  · rw [World.cell?_setCell_other (h:=by intro e;simp at e <;> omega)]
    exact hbo j hj
  · rw [World.frozen?_setCell,hb.frozen (p:=⟨w.heap.size,j,none⟩) hp]
    exact hz j
  · have:=hb.size;omega
  · simp [World.setCell]
  · exact (hw.trans (hb.mono hw.size)).setCell (p:=⟨w.heap.size,5,none⟩) (Nat.le_refl _) _
set_option maxRecDepth 100000 in
set_option maxHeartbeats 3200000 in
theorem ROpen17_pos {ao:Option Addr} {m c:Nat} {B:List (List Int)} (w:World) (hX:RowsIn w ao m c B) (h64:64≤m) (hm:m≤140737488351232) (hl:len64 B=true) (hyes:isSup (B.getD 0 [])=true∧(supAt B).a=(m:Int)∧isHead (B.getD 1 [])=true∧sealedB (B.getD 2 [])=true) :
    Calls Tryz.prog 6 #[.slice ao m c] w fun e w'=>((volB B=true∧∃ p,e=.returned (.tuple #[.pointer (some ⟨p,0,none⟩),.bool true])∧VolAt w' p B ao m c∧w.heap.size≤p)∨(volB B=false∧e=.returned (.tuple #[.pointer none,.bool false])))∧Below w.heap.size w w':=by
  have hl0:=len64_iff.1 hl
  have hlen:=hX.1
  obtain ⟨b1,o1,rfl,hpl⟩:=hX.place (by omega)
  have i1:(64:Int)≤(m:Int):=by omega
  have i2:(2:Int) < (m:Int):=by omega
  have i3:(1:Int) < (m:Int):=by omega
  have i4:(0:Int) < (m:Int):=by omega
  obtain ⟨W,hW⟩:∃ W,w.alloc (.cells #[.int .i64 0,.int .i64 0,.int .i64 0,.int .i64 0,.int .i64 0,.slice none 0 0,.slice none 0 0,.slice (some ⟨b1,o1,none⟩) m c] 40)=W:=⟨_,rfl⟩
  have HB:Hid (Below w.heap.size w W):=Lib.hid (by rw [← hW];exact (Below.refl _ _).alloc (Nat.le_refl _) _)
  have HX:=Lib.hid (hX.later HB.out)
  obtain ⟨ad0,c0,d0,q0⟩:=hpl 0 (by omega) (hl0 0 (by omega))
  obtain ⟨ad1,c1,d1,q1⟩:=hpl 1 (by omega) (hl0 1 (by omega))
  obtain ⟨ad2,c2,d2,q2⟩:=hpl 2 (by omega) (hl0 2 (by omega))
  have D0:=Lib.hid (cell_later HB.out d0)
  have D1:=Lib.hid (cell_later HB.out d1)
  have D2:=Lib.hid (cell_later HB.out d2)
  obtain ⟨x0,x1,x2,x3,x4,hS⟩:∃ x0 x1 x2 x3 x4,getSup (B.getD 0 [])=⟨x0,x1,x2,x3,x4⟩:=⟨_,_,_,_,_,rfl⟩
  obtain ⟨es,hes⟩:∃ es,getSupErr (B.getD 0 [])=es:=⟨_,rfl⟩
  obtain ⟨y0,y1,hY⟩:∃ y0 y1,getHead (B.getD 1 [])=⟨y0,y1⟩:=⟨_,_,rfl⟩
  obtain ⟨eh,heh⟩:∃ eh,getHeadErr (B.getD 1 [])=eh:=⟨_,rfl⟩
  obtain ⟨sl,hsl⟩:∃ sl,sealedB (B.getD 2 [])=sl:=⟨_,rfl⟩
  have HS:Hid (∀ V,Below w.heap.size w V→Calls Tryz.prog 21 #[.slice (some ad0) 64 c0] V fun e' w'=>e'=.returned (.tuple #[.agg #[.int .i64 x0,.int .i64 x1,.int .i64 x2,.int .i64 x3,.int .i64 x4],.int .i64 es])∧Below V.heap.size V w'):=Lib.hid (fun V hV=>by
    have h:=dec08_any _ _ _ _ _ (q0.later hV)
    rw [hes,hS] at h
    exact h)
  have HH:Hid (∀ V,Below w.heap.size w V→Calls Tryz.prog 22 #[.slice (some ad1) 64 c1] V fun e' w'=>e'=.returned (.tuple #[.agg #[.int .i64 y0,.int .i64 y1],.int .i64 eh])∧Below V.heap.size V w'):=Lib.hid (fun V hV=>by
    have h:=get08_any _ _ _ _ _ (q1.later hV)
    rw [heh,hY] at h
    exact h)
  have HSE:Hid (∀ V,Below w.heap.size w V→Calls Tryz.prog 23 #[.slice (some ad2) 64 c2] V (Says V.heap.size V sl)):=Lib.hid (fun V hV=>by
    have h:=Sealed04_any _ _ _ _ _ (q2.later hV)
    rw [hsl] at h
    exact h)
  have HLT:Hid (LenTo B m):=Lib.hid (fun j hj=>hl0 j (by omega))
  obtain rfl:es=0:=by rw [← hes];unfold getSupErr;rw [if_pos hyes.1]
  obtain rfl:eh=0:=by rw [← heh];unfold getHeadErr;rw [if_pos hyes.2.2.1]
  obtain rfl:sl=true:=by rw [← hsl];exact hyes.2.2.2
  have hne:(x0 != (m:Int))=false:=by
    have h:=hyes.2.1
    unfold supAt at h
    rw [hS] at h
    simpa using h
  have HSP:Hid (supAt B=⟨x0,x1,x2,x3,x4⟩):=Lib.hid hS
  have HA2:Hid (Arg w (some ad2) 64 c2 (B.getD 2 [])):=Lib.hid q2
  have c60:(60:Int)≤(c2:Int):=by have:=q2.2.2.1;omega
  have c61:60≤c2:=by omega
  obtain ⟨bb2,ob2,had2,_⟩:=q2.1.2.2.2.resolve_left (by decide)
  have hlt1:=World.block_lt_of_cell? _ _ d2
  have HVB:Hid ((∀ k,k < 32→isNode (halfAt B k)=true)→volB B=true):=Lib.hid (fun h=>by
    unfold volB
    simp only [Bool.and_eq_true,decide_eq_true_iff,List.all_eq_true,List.mem_range]
    exact ⟨by omega,hyes.1,by rw [hlen];exact hyes.2.1,hyes.2.2.1,hyes.2.2.2,h⟩)
  have HXW:=Lib.hid hX
  have HLW:Hid (LenTo B m):=Lib.hid HLT.out
  have HBN:Hid (b1≠w.heap.size):=Lib.hid (by dsimp only at hlt1;omega)
  clear hX h64 hl hyes hl0 hpl d0 d1 d2 q0 q1 q2 hS hes hY heh hsl hlen hlt1
  cases had2
  have hp:w.heap.size < W.heap.size:=by rw [← hW];simp
  have HVW:Hid (∀ V,Below W.heap.size W V→V.there w.heap.size 0 8∧V.cell? ⟨w.heap.size,5,none⟩=some (.slice none 0 0)∧V.cell? ⟨w.heap.size,6,none⟩=some (.slice none 0 0)∧V.cell? ⟨w.heap.size,7,none⟩=some (.slice (some ⟨b1,o1,none⟩) m c)∧∀ j,V.frozen? ⟨w.heap.size,j,none⟩=false):=Lib.hid (fun V hV=>by
    have hc:∀ j,V.cell? ⟨w.heap.size,j,none⟩=(#[.int .i64 0,.int .i64 0,.int .i64 0,.int .i64 0,.int .i64 0,.slice none 0 0,.slice none 0 0,.slice (some ⟨b1,o1,none⟩) m c]:Array Value)[j]?:=fun j=>by rw [hV.cell (p:=⟨w.heap.size,j,none⟩) hp,← hW,World.cell?_alloc_new]
    have hz:∀ j,V.frozen? ⟨w.heap.size,j,none⟩=false:=fun j=>by rw [hV.frozen (p:=⟨w.heap.size,j,none⟩) hp,← hW,World.frozen?_alloc_mark];simp
    refine ⟨fun j hj=>⟨?_,hz _⟩,by rw [hc];rfl,by rw [hc];rfl,by rw [hc];rfl,hz⟩
    rw [Nat.zero_add,hc,Array.getElem?_eq_getElem (by simpa using hj)]
    rfl)
  go_enter Tryz.func6,Tryz.ntmps6
  go_wp2_with fail
  try rw [hW]
  go_loopw [5] (fun kv wr=>∃ i:Nat,i≤m∧kv=.int .i64 i∧Hid (W=wr)) (fun kv _=>m - (intOf kv).toNat)
  case atStart=>exact ⟨0,Nat.zero_le _,rfl,Lib.hid rfl⟩
  case round=>
    obtain ⟨i,hi,rfl,HW⟩:=hrel
    by_cases hlt:i < m
    · have j2:(i:Int) < m:=by omega
      obtain ⟨b9,o9,ad9,c9,he9,d9,_⟩:=HX.out.full hlt (HLT.out i hlt)
      cases he9
      rw [HW.out] at d9
      go_wp2_with fail
      go_roundw
      case rel=>exact ⟨i+1,by omega,by go_num,HW⟩
      case measure=>simp [intOf];omega
    · have hit:i=m:=by omega
      subst hit
      have e0:=D0.out
      rw [Nat.add_zero] at e0
      rw [← HW.out]
      clear HLT HX hlt
      go_wp2_with (first
        | (go_at_call 21;refine (HS.out _ HB.out).mono ?_;rintro e' w3 ⟨rfl,hb3⟩
           have a3:Below W.heap.size W (w3.alloc (.cells #[.int .i64 x0,.int .i64 x1,.int .i64 x2,.int .i64 x3,.int .i64 x4] 36)):=hb3.alloc hb3.size _
           have e1:=cell_later a3 D1.out
           have HF3:Hid ((w3.alloc (.cells #[.int .i64 x0,.int .i64 x1,.int .i64 x2,.int .i64 x3,.int .i64 x4] 36)).rangeAt w3.heap.size 0 [.int .i64 x0,.int .i64 x1,.int .i64 x2,.int .i64 x3,.int .i64 x4]):=Lib.hid (fun j v hj=>by
             rw [Nat.zero_add,World.cell?_alloc_new]
             simpa using hj)
           have HD3:=Lib.hid (cell_later a3 D2.out)
           have HB3:=Lib.hid (HB.out.trans (a3.mono HB.out.size))
           have HW3:=Lib.hid a3
           clear hb3 a3 e0)
        | (go_at_call 22;refine (HH.out _ HB3.out).mono ?_;rintro e' w4 ⟨rfl,hb4⟩
           have a4:Below (w3.alloc (.cells #[.int .i64 x0,.int .i64 x1,.int .i64 x2,.int .i64 x3,.int .i64 x4] 36)).heap.size (w3.alloc (.cells #[.int .i64 x0,.int .i64 x1,.int .i64 x2,.int .i64 x3,.int .i64 x4] 36)) (w4.alloc (.cells #[.int .i64 y0,.int .i64 y1] 60)):=hb4.alloc hb4.size _
           have f0:=cell_later a4 (HF3.out 0 _ rfl)
           have e2:=cell_later a4 HD3.out
           have HF4:Hid ((w4.alloc (.cells #[.int .i64 y0,.int .i64 y1] 60)).rangeAt w3.heap.size 0 [.int .i64 x0,.int .i64 x1,.int .i64 x2,.int .i64 x3,.int .i64 x4]):=Lib.hid (fun j v hj=>cell_later a4 (HF3.out j v hj))
           have HB4:=Lib.hid (HB3.out.trans (a4.mono HB3.out.size))
           have HW4:=Lib.hid (HW3.out.trans (a4.mono HW3.out.size))
           clear hb4 a4 e1)
        | (go_at_call 23;refine (HSE.out _ HB4.out).mono ?_;rintro e' w5 ⟨rfl,hb5⟩;have HB5:=Lib.hid (HB4.out.trans (hb5.mono HB4.out.size));have hb5':=hb5;have HW5:=Lib.hid (HW4.out.trans (hb5.mono HW4.out.size));have e5:=cell_later hb5 e2;clear hb5 e2 f0)
        | (refine wpList_load_mid rfl 36 (.tmp 6) rfl w3.heap.size 0 rfl [.int .i64 x0,.int .i64 x1,.int .i64 x2,.int .i64 x3,.int .i64 x4] _ (fun j v hj=>cell_later hb5' (HF4.out j v hj)) Tryz.underlying36 rfl (by kernel_rfl) ?_)
        | (refine wpList_store_mid rfl 36 (.tmp 68) (.tmp 66) rfl w.heap.size 0 #[.int .i64 x0,.int .i64 x1,.int .i64 x2,.int .i64 x3,.int .i64 x4] rfl rfl (fun j hj=>(HVW.out _ HW5.out).1 j (by have h5:j < 5:=hj;omega)) (by kernel_rfl) (one_sup ..) ?_
           have hth:w5.there w.heap.size 0 5:=fun j hj=>(HVW.out _ HW5.out).1 j (by omega)
           have hoth:∀ j,5≤j→(w5.setCells w.heap.size 0 [.int .i64 x0,.int .i64 x1,.int .i64 x2,.int .i64 x3,.int .i64 x4]).cell? ⟨w.heap.size,j,none⟩=w5.cell? ⟨w.heap.size,j,none⟩:=fun j hj=>by
             rw [setCells_cell _ _ _ _ _ (fun k h1 h2=>by have:=(hth k (by simpa using h2)).1;rwa [Nat.zero_add] at this),if_neg (by simp;omega)]
           have HR6:=Lib.hid (World.rangeAt_setCells_same w5 w.heap.size 0 [.int .i64 x0,.int .i64 x1,.int .i64 x2,.int .i64 x3,.int .i64 x4] hth)
           have k5:=(hoth 5 (by decide)).trans (HVW.out _ HW5.out).2.1
           have HK6:=Lib.hid (And.intro ((hoth 6 (by decide)).trans (HVW.out _ HW5.out).2.2.1) ((hoth 7 (by decide)).trans (HVW.out _ HW5.out).2.2.2.1))
           have z5:(w5.setCells w.heap.size 0 [.int .i64 x0,.int .i64 x1,.int .i64 x2,.int .i64 x3,.int .i64 x4]).frozen? ⟨w.heap.size,5,none⟩=false:=by rw [frozen_setCells];exact (HVW.out _ HW5.out).2.2.2.2 5
           have HZ6:Hid (∀ j,(w5.setCells w.heap.size 0 [.int .i64 x0,.int .i64 x1,.int .i64 x2,.int .i64 x3,.int .i64 x4]).frozen? ⟨w.heap.size,j,none⟩=false):=Lib.hid (fun j=>by rw [frozen_setCells];exact (HVW.out _ HW5.out).2.2.2.2 j)
           have e6:(w5.setCells w.heap.size 0 [.int .i64 x0,.int .i64 x1,.int .i64 x2,.int .i64 x3,.int .i64 x4]).cell? ⟨b1,o1+2,none⟩=some (.slice (some ⟨bb2,ob2,none⟩) 64 c2):=by rw [cell_of_heap (p:=⟨b1,o1+2,none⟩) (heap_setCells _ _ _ _ _ HBN.out)];exact e5
           have HB6:Hid (Below w.heap.size w (w5.setCells w.heap.size 0 [.int .i64 x0,.int .i64 x1,.int .i64 x2,.int .i64 x3,.int .i64 x4])):=Lib.hid (below_cells _ (Nat.le_refl _) _ _ _ HB5.out)
           obtain ⟨w6,hw6⟩:∃ w6,w5.setCells w.heap.size 0 [.int .i64 x0,.int .i64 x1,.int .i64 x2,.int .i64 x3,.int .i64 x4]=w6:=⟨_,rfl⟩
           rw [hw6] at HR6 k5 HK6 z5 HZ6 e6 HB6
           try rw [hw6]
           clear hth hoth e5 hw6)
        | (go_at_call 24;refine (Up05_any (some ⟨bb2,ob2,none⟩) c2 (flagsAt B) w6 (arg_cut (HA2.out.later HB6.out) (by decide)).1).mono ?_
           rintro e' w7 ⟨v7,rfl,hf7,hb7⟩
           obtain ⟨gu,cu,rfl,hcu,hu7⟩:=ownV_of_fresh hf7 hb7 (fun h=>by have h2:=congrArg List.length h;rw [boolsV_length] at h2;simp at h2)
           have k7:=cell_later hb7 k5
           have z7:w7.frozen? ⟨w.heap.size,5,none⟩=false:=by rw [hb7.frozen (p:=⟨w.heap.size,5,none⟩) (World.block_lt_of_cell? _ _ k5)];exact z5
           have HU7:=Lib.hid hu7
           have HB7:=Lib.hid hb7
           try rw [boolsV_length]
           clear hf7 hb7 hu7 e6))
      have HRS:=Lib.hid (rop_start (cu:=cu) (s:=⟨x0,x1,x2,x3,x4⟩) HR6.out HK6.out.1 HK6.out.2 HZ6.out k5 HU7.out HB7.out HB6.out)
      obtain ⟨q,hq⟩:∃ q,w7.heap.size=q:=⟨_,rfl⟩
      obtain ⟨p,hp9⟩:∃ p,w.heap.size=p:=⟨_,rfl⟩
      rw [hq] at HRS
      have HJ0:Hid (ROp w q w.heap.size gu cu ⟨x0,x1,x2,x3,x4⟩ (flagsAt B) (some ⟨b1,o1,none⟩) i c 0 (.slice none 0 0) (w7.setCell ⟨w.heap.size,5,none⟩ (.slice (some ⟨gu,0,none⟩) 480 cu))∧∀ k,k < 0→isNode (halfAt B k)=true):=Lib.hid ⟨HRS.out,fun k hk=>absurd hk (by omega)⟩
      rw [hp9] at HJ0 ⊢
      clear HRS HR6 HK6 HZ6 HU7 HB7 HB6 HB5 HB4 HB3 HW3 HW4 HW5 HF3 HF4 HD3 HVW k5 z5 k7 z7 hb5' hp HB D0 D1 D2 HS HH HSE hW hne
      go_loopw [10] (fun kv wr=>∃ (k:Nat) (vv:Value),k≤32∧kv=.int .i64 k∧Hid (ROp w q p gu cu ⟨x0,x1,x2,x3,x4⟩ (flagsAt B) (some ⟨b1,o1,none⟩) i c k vv wr∧∀ j,j < k→isNode (halfAt B j)=true)) (fun kv _=>32 - (intOf kv).toNat)
      case atStart=>exact ⟨0,_,Nat.zero_le _,rfl,HJ0⟩
      case round=>
        obtain ⟨k,vv,hk,rfl,HJ⟩:=hrel
        clear HJ0
        by_cases hlt:k < 32
        · obtain ⟨r,hr⟩:∃ r:Nat,k%2=r:=⟨_,rfl⟩
          obtain ⟨a,ha⟩:∃ a:Nat,k / 2=a:=⟨_,rfl⟩
          obtain ⟨b,hb⟩:∃ b:Nat,3+a=b:=⟨_,rfl⟩
          obtain ⟨d,hd⟩:∃ d:Nat,r * 32=d:=⟨_,rfl⟩
          obtain ⟨e,he⟩:∃ e:Nat,d+32=e:=⟨_,rfl⟩
          have hbi:b < i:=by omega
          obtain ⟨b9,o9,ad9,c9,he9,d9,q9⟩:=(HXW.out.later HJ.out.1.bel).full hbi (HLW.out b hbi)
          cases he9
          obtain ⟨bb9,ob9,had9,_⟩:=q9.1.2.2.2.resolve_left (by decide)
          cases had9
          have hA:=arg_cut (arg_rest q9 (k:=d) (by omega)) (k:=32) (by omega)
          have hhalf:((B.getD b []).drop d).take 32=halfAt B k:=by unfold halfAt;rw [hr,ha,hb,hd]
          rw [hhalf] at hA
          have hc9:=q9.2.2.1
          have e1:(k:Int)%2=(r:Int):=by omega
          have e2:(k:Int) / 2=(a:Int):=by omega
          have e3:(3:Int)+(a:Int)=(b:Int):=by omega
          have e4:(32:Int) * (r:Int)=(d:Int):=by omega
          have e5:(d:Int)+32=(e:Int):=by omega
          have l1:(0:Int)≤(k:Int):=by omega
          have l2:(k:Int) < 32:=by omega
          have l3:(r:Int)≤1:=by omega
          have l4:(a:Int)≤15:=by omega
          have l5:(b:Int) < (i:Int):=by omega
          have l6:d≤e:=by omega
          have l7:(e:Int)≤(c9:Int):=by omega
          have l8:e≤c9:=by omega
          have l9:¬ c9=d:=by omega
          have HED:Hid (e - d=32):=Lib.hid (by omega)
          have cD:Calls Tryz.prog 25 #[.slice (some ⟨bb9,ob9+d,none⟩) (e - d) (c9 - d)] wr fun e w'=>∃ xo xm xc k0 nf nl nz n0 n1 n2 n3 ns nt nc,e=.returned (.tuple #[.agg #[.int .i64 k0,.int .i64 nf,.int .i64 nl,.int .i64 nz,.int .i64 n0,.int .i64 n1,.int .i64 n2,.int .i64 n3,.int .i64 ns,.int .i64 nt,.slice xo xm xc,.int .i64 nc],.int .i64 (decErr (halfAt B k))])∧Below wr.heap.size wr w':=by
            rw [HED.out]
            have h:=rdec_any _ _ _ _ _ hA
            rw [(rdec_eq hA.1.2.2.1).2] at h
            refine h.mono ?_
            rintro e' w' ⟨xo,xm,xc,rfl,_,hb⟩
            exact ⟨xo,xm,xc,_,_,_,_,_,_,_,_,_,_,_,rfl,hb⟩
          clear hA hhalf hr ha hb hd he hbi q9 hc9
          cases hin:isNode (halfAt B k) with
          | false=>
            rw [show decErr (halfAt B k)=2 by unfold decErr;rw [if_neg (by rw [hin];decide)]] at cD
            have HF:=Lib.hid (volB_node hlt hin)
            have HBW:=Lib.hid HJ.out.1.bel
            clear hin HJ
            go_wp2_with (first
              | (go_at_call 25;refine cD.mono ?_;rintro e' w8 ⟨xo,xm,xc,k0,nf,nl,nz,n0,n1,n2,n3,ns,nt,nc,rfl,hb8⟩;have HB8:=Lib.hid hb8;clear hb8)
              | (refine wp_store_newR rfl 68 (.tmp 11) (.tmp 97) rfl w8.heap.size #[.int .i64 k0,.int .i64 nf,.int .i64 nl,.int .i64 nz,.int .i64 n0,.int .i64 n1,.int .i64 n2,.int .i64 n3,.int .i64 ns,.int .i64 nt,.slice xo xm xc,.int .i64 nc] rfl rfl (there_new0 _ _ _ rfl) (by kernel_rfl) (one_node ..) rfl ?_;intro w9 hr9 hw9;have HB9:Hid (Below wr.heap.size wr w9):=Lib.hid (hw9 _ _ HB8.out.size (HB8.out.alloc HB8.out.size _));clear hw9 hr9))
            go_ret2
            exact ⟨Or.inr ⟨HF.out,rfl⟩,HBW.out.trans (HB9.out.mono HBW.out.size)⟩
          | true=>
            rw [show decErr (halfAt B k)=0 by unfold decErr;rw [if_pos hin]] at cD
            have HIN:=Lib.hid hin
            clear hin
            go_wp2_with (first
              | (go_at_call 25;refine cD.mono ?_;rintro e' w8 ⟨xo,xm,xc,k0,nf,nl,nz,n0,n1,n2,n3,ns,nt,nc,rfl,hb8⟩;have HB8:=Lib.hid hb8;clear hb8)
              | (refine wp_store_newR rfl 68 (.tmp 11) (.tmp 97) rfl w8.heap.size #[.int .i64 k0,.int .i64 nf,.int .i64 nl,.int .i64 nz,.int .i64 n0,.int .i64 n1,.int .i64 n2,.int .i64 n3,.int .i64 ns,.int .i64 nt,.slice xo xm xc,.int .i64 nc] rfl rfl (there_new0 _ _ _ rfl) (by kernel_rfl) (one_node ..) rfl ?_;intro w9 hr9 hw9;have HB9:Hid (Below wr.heap.size wr w9):=Lib.hid (hw9 _ _ HB8.out.size (HB8.out.alloc HB8.out.size _));have HR9:=Lib.hid hr9;clear hw9 hr9))
            have H9:=Lib.hid (HJ.out.1.later HB9.out)
            obtain ⟨xs9,hxs9⟩:=HJ.out.1.own
            have HSD:Hid (w9.drew.rangeAt w8.heap.size 0 [.int .i64 k0,.int .i64 nf,.int .i64 nl,.int .i64 nz,.int .i64 n0,.int .i64 n1,.int .i64 n2,.int .i64 n3,.int .i64 ns,.int .i64 nt,.slice xo xm xc,.int .i64 nc]):=Lib.hid ((World.rangeAt_drew _ _ _ _).2 HR9.out)
            have b10:Below w9.heap.size w9 (w9.drew.alloc (.cells #[.int .i64 k0,.int .i64 nf,.int .i64 nl,.int .i64 nz,.int .i64 n0,.int .i64 n1,.int .i64 n2,.int .i64 n3,.int .i64 ns,.int .i64 nt,.slice xo xm xc,.int .i64 nc] 68)):=(Below.refl _ _).drew.alloc (Nat.le_refl _) _
            have H10:=Lib.hid (H9.out.later b10)
            have HR10:Hid ((w9.drew.alloc (.cells #[.int .i64 k0,.int .i64 nf,.int .i64 nl,.int .i64 nz,.int .i64 n0,.int .i64 n1,.int .i64 n2,.int .i64 n3,.int .i64 ns,.int .i64 nt,.slice xo xm xc,.int .i64 nc] 68)).rangeAt w8.heap.size 0 [.int .i64 k0,.int .i64 nf,.int .i64 nl,.int .i64 nz,.int .i64 n0,.int .i64 n1,.int .i64 n2,.int .i64 n3,.int .i64 ns,.int .i64 nt,.slice xo xm xc,.int .i64 nc]):=Lib.hid (fun j v hj=>cell_later b10 (HR9.out j v hj))
            have HO10:Hid ((w9.drew.alloc (.cells #[.int .i64 k0,.int .i64 nf,.int .i64 nl,.int .i64 nz,.int .i64 n0,.int .i64 n1,.int .i64 n2,.int .i64 n3,.int .i64 ns,.int .i64 nt,.slice xo xm xc,.int .i64 nc] 68)).ownsRow q 68 12 vv k xs9):=Lib.hid (owns_later_r (owns_later_r hxs9 HB9.out) b10)
            have HNW:=Lib.hid (news_r w9.drew [.int .i64 k0,.int .i64 nf,.int .i64 nl,.int .i64 nz,.int .i64 n0,.int .i64 n1,.int .i64 n2,.int .i64 n3,.int .i64 ns,.int .i64 nt,.slice xo xm xc,.int .i64 nc] 68)
            have HON:Hid (∀ u ∈ ([.int .i64 k0,.int .i64 nf,.int .i64 nl,.int .i64 nz,.int .i64 n0,.int .i64 n1,.int .i64 n2,.int .i64 n3,.int .i64 ns,.int .i64 nt,.slice xo xm xc,.int .i64 nc]:List Value),u.oneCell'=true):=Lib.hid (by simp [Value.oneCell'])
            have HK9:Hid (k≤1000):=Lib.hid (by omega)
            have HQ9:Hid (q≤(w9.drew.alloc (.cells #[.int .i64 k0,.int .i64 nf,.int .i64 nl,.int .i64 nz,.int .i64 n0,.int .i64 n1,.int .i64 n2,.int .i64 n3,.int .i64 ns,.int .i64 nt,.slice xo xm xc,.int .i64 nc] 68)).heap.size):=Lib.hid H10.out.lt.2.2.2.1
            have HNB:Hid (vv.ownBlock≠some w8.heap.size):=Lib.hid (fun e=>by have h1:=(hxs9.lt _ e).2;have h2:=HB8.out.size;omega)
            have HPN:Hid (p < w8.heap.size):=Lib.hid (by have h1:=HJ.out.1.lt;have h2:=HB8.out.size;omega)
            have q6:w9.drew.cell? ⟨p,6,none⟩=some vv:=H9.out.c6
            have q7:=H10.out.c6
            have q8:((w9.alloc (.cells #[.int .i64 k0,.int .i64 nf,.int .i64 nl,.int .i64 nz,.int .i64 n0,.int .i64 n1,.int .i64 n2,.int .i64 n3,.int .i64 ns,.int .i64 nt,.slice xo xm xc,.int .i64 nc] 68)).drew).cell? ⟨p,6,none⟩=some vv:=q7
            clear hxs9 b10 d9 cD
            go_wp2_with fail
            refine wp_region_held_drew (S:=fun V=>V.rangeAt w8.heap.size 0 [.int .i64 k0,.int .i64 nf,.int .i64 nl,.int .i64 nz,.int .i64 n0,.int .i64 n1,.int .i64 n2,.int .i64 n3,.int .i64 ns,.int .i64 nt,.slice xo xm xc,.int .i64 nc]) (by kernel_rfl) HSD.out (fun hHeld=>?_)
            refine wpAnyH_take (i:=0) (oi:=⟨some 101,_,_,_,_,_⟩) (v:=.pointer (some ⟨p,0,none⟩)) rfl (by kernel_rfl) (by kernel_rfl) (by kernel_rfl) (fun _ _ _ h=>h) (Or.inl ⟨by kernel_rfl,fun w _=>rfl⟩) (by assumption) ?_
            try simp only [Act.put,List.setIfInBounds_toArray,List.set_cons_zero,List.set_cons_succ]
            refine wpAnyH_take (i:=1) (oi:=⟨some 102,_,_,_,_,_⟩) (v:=.pointer (some ⟨p,0,none⟩)) rfl (by kernel_rfl) (by kernel_rfl) (by kernel_rfl) (fun _ _ _ h=>h) (Or.inl ⟨by kernel_rfl,fun w _=>rfl⟩) (by assumption) ?_
            try simp only [Act.put,List.setIfInBounds_toArray,List.set_cons_zero,List.set_cons_succ]
            refine wpAnyH_take (i:=2) (oi:=⟨some 103,_,_,_,_,_⟩) (v:=.pointer (some ⟨p,0,none⟩)) rfl (by kernel_rfl) (by kernel_rfl) (by kernel_rfl) (fun _ _ _ h=>h) (Or.inl ⟨by kernel_rfl,by intro w _;go_simp;(try omega)⟩) (by assumption) ?_
            try simp only [Act.put,List.setIfInBounds_toArray,List.set_cons_zero,List.set_cons_succ]
            refine wpAnyH_take (i:=3) (oi:=⟨some 104,_,_,_,_,_⟩) (v:=.pointer (some ⟨p,6,none⟩)) rfl (by kernel_rfl) (by kernel_rfl) (by kernel_rfl) (fun _ _ _ h=>h) (Or.inl ⟨by kernel_rfl,by intro w _;go_simp;(try omega)⟩) (by assumption) ?_
            try simp only [Act.put,List.setIfInBounds_toArray,List.set_cons_zero,List.set_cons_succ]
            refine wpAnyH_take (i:=5) (oi:={ dst:=some 106,op:=.load 68 (.tmp 11),type:=68,pos := "ref.go:48", after := #[],guard:=none }) rfl (by kernel_rfl) (by kernel_rfl) (by kernel_rfl) (fun _ _ _ h=>h) (yieldsIf_load_mid (by rfl) _ _ rfl _ _ rfl _ _ (fun W h=>h) Tryz.underlying68 rfl (by kernel_rfl)) (by assumption) ?_
            try simp only [Act.put,List.setIfInBounds_toArray,List.set_cons_zero,List.set_cons_succ]
            refine wpAnyH_ready (rs:=[4,6]) (by kernel_rfl) (by simp) ?_
            refine AllReadyH.cons (o:=⟨some 105,_,_,_,_,_⟩) rfl (fun K hK=>?_) (AllReadyH.cons (o:=⟨some 107,_,_,_,_,_⟩) rfl (fun K hK=>?_) AllReadyH.nil)
            · go_simp
              refine hK.out _ _ ?_ (fun hHeld1=>?_)
              · exact HSD.out
              clear hK K
              try simp only [Act.put,List.setIfInBounds_toArray,List.set_cons_zero,List.set_cons_succ]
              refine wpAnyH_ready (rs:=[6]) (by kernel_rfl) (by simp) ?_
              refine AllReadyH.cons (o:=⟨some 107,_,_,_,_,_⟩) rfl (fun K hK=>?_) AllReadyH.nil
              refine step_build12 rfl (.tmp 106) rfl [.int .i64 k0,.int .i64 nf,.int .i64 nl,.int .i64 nz,.int .i64 n0,.int .i64 n1,.int .i64 n2,.int .i64 n3,.int .i64 ns,.int .i64 nt,.slice xo xm xc,.int .i64 nc] rfl rfl _ rfl ?_
              refine hK.out _ _ ?_ (fun hHeld2=>?_)
              · exact HR10.out
              clear hK K
              try simp only [Act.put,List.setIfInBounds_toArray,List.set_cons_zero,List.set_cons_succ]
              refine wpAnyH_ready (rs:=[7]) (by kernel_rfl) (by simp) ?_
              refine AllReadyH.cons (o:=⟨some 108,_,_,_,_,_⟩) rfl (fun K hK=>?_) AllReadyH.nil
              refine step_append12 rfl (.tmp 105) (.tmp 107) rfl q k vv xs9 rfl HO10.out ⟨w9.heap.size,0,none⟩ 1 [.int .i64 k0,.int .i64 nf,.int .i64 nl,.int .i64 nz,.int .i64 n0,.int .i64 n1,.int .i64 n2,.int .i64 n3,.int .i64 ns,.int .i64 nt,.slice xo xm xc,.int .i64 nc] rfl rfl HNW.out HON.out HK9.out HQ9.out ?_
              intro v11 w11 hown11 hg11 hb11
              obtain ⟨va11,vc11,rfl⟩:=owns_shape_r hown11
              have HO11:=Lib.hid hown11
              have HB11:=Lib.hid hb11
              have HR11:Hid (w11.rangeAt w8.heap.size 0 [.int .i64 k0,.int .i64 nf,.int .i64 nl,.int .i64 nz,.int .i64 n0,.int .i64 n1,.int .i64 n2,.int .i64 n3,.int .i64 ns,.int .i64 nt,.slice xo xm xc,.int .i64 nc]):=Lib.hid (fun j v hj=>hg11.cell (HR10.out j v hj) (fun e=>HNB.out e.symm))
              have q11:=(cell_of_heap (p:=⟨p,6,none⟩) (hb11.block p H10.out.lt.1)).trans q7
              have z11:=(frozen_of_heap (p:=⟨p,6,none⟩) (hb11.block p H10.out.lt.1)).trans (H10.out.fz 6)
              have HR12:Hid ((w11.setCell ⟨p,6,none⟩ (.slice va11 (k+1) vc11)).rangeAt w8.heap.size 0 [.int .i64 k0,.int .i64 nf,.int .i64 nl,.int .i64 nz,.int .i64 n0,.int .i64 n1,.int .i64 n2,.int .i64 n3,.int .i64 ns,.int .i64 nt,.slice xo xm xc,.int .i64 nc]):=Lib.hid (fun j v hj=>by rw [World.cell?_setCell_other (h:=by intro e;simp at e;have h1:=HPN.out;omega)];exact HR11.out j v hj)
              clear hown11 hg11 hb11
              refine hK.out _ _ ?_ (fun hHeld3=>?_)
              · exact HR11.out
              clear hK K
              try simp only [Act.put,List.setIfInBounds_toArray,List.set_cons_zero,List.set_cons_succ]
              refine wpAnyH_take (i:=8) (oi:=⟨some 109,_,_,_,_,_⟩) (v:=.pointer (some ⟨p,0,none⟩)) rfl (by kernel_rfl) (by kernel_rfl) (by kernel_rfl) (fun _ _ _ h=>h) (Or.inl ⟨by kernel_rfl,by intro w _;go_simp;(try omega)⟩) (by assumption) ?_
              try simp only [Act.put,List.setIfInBounds_toArray,List.set_cons_zero,List.set_cons_succ]
              refine wpAnyH_take (i:=9) (oi:=⟨some 110,_,_,_,_,_⟩) (v:=.pointer (some ⟨p,6,none⟩)) rfl (by kernel_rfl) (by kernel_rfl) (by kernel_rfl) (fun _ _ _ h=>h) (Or.inl ⟨by kernel_rfl,by intro w _;go_simp;(try omega)⟩) (by assumption) ?_
              try simp only [Act.put,List.setIfInBounds_toArray,List.set_cons_zero,List.set_cons_succ]
              refine wpAnyH_ready (rs:=[10]) (by kernel_rfl) (by simp) ?_
              refine AllReadyH.cons (o:=⟨none,_,_,_,_,_⟩) rfl (fun K hK=>?_) AllReadyH.nil
              go_simp
              refine hK.out _ _ ?_ (fun hHeld4=>?_)
              · exact HR12.out
              clear hK K
              try simp only [Act.put,List.setIfInBounds_toArray,List.set_cons_zero,List.set_cons_succ]
              refine wpAnyH_done (by kernel_rfl) ?_ _
              go_wp2_with fail
              go_roundw
              case rel=>exact ⟨k+1,.slice va11 (k+1) vc11,by omega,by go_num,Lib.hid ⟨(H10.out.step HB11.out HO11.out),fun j hj=>by
                by_cases e:j=k
                · rw [e];exact HIN.out
                · exact HJ.out.2 j (by omega)⟩⟩
              case measure=>simp [intOf];omega
            · refine step_build12 rfl (.tmp 106) rfl [.int .i64 k0,.int .i64 nf,.int .i64 nl,.int .i64 nz,.int .i64 n0,.int .i64 n1,.int .i64 n2,.int .i64 n3,.int .i64 ns,.int .i64 nt,.slice xo xm xc,.int .i64 nc] rfl rfl _ rfl ?_
              refine hK.out _ _ ?_ (fun hHeld1=>?_)
              · exact HR10.out
              clear hK K
              try simp only [Act.put,List.setIfInBounds_toArray,List.set_cons_zero,List.set_cons_succ]
              refine wpAnyH_ready (rs:=[4]) (by kernel_rfl) (by simp) ?_
              refine AllReadyH.cons (o:=⟨some 105,_,_,_,_,_⟩) rfl (fun K hK=>?_) AllReadyH.nil
              go_simp
              refine hK.out _ _ ?_ (fun hHeld2=>?_)
              · exact HR10.out
              clear hK K
              try simp only [Act.put,List.setIfInBounds_toArray,List.set_cons_zero,List.set_cons_succ]
              refine wpAnyH_ready (rs:=[7]) (by kernel_rfl) (by simp) ?_
              refine AllReadyH.cons (o:=⟨some 108,_,_,_,_,_⟩) rfl (fun K hK=>?_) AllReadyH.nil
              refine step_append12 rfl (.tmp 105) (.tmp 107) rfl q k vv xs9 rfl HO10.out ⟨w9.heap.size,0,none⟩ 1 [.int .i64 k0,.int .i64 nf,.int .i64 nl,.int .i64 nz,.int .i64 n0,.int .i64 n1,.int .i64 n2,.int .i64 n3,.int .i64 ns,.int .i64 nt,.slice xo xm xc,.int .i64 nc] rfl rfl HNW.out HON.out HK9.out HQ9.out ?_
              intro v11 w11 hown11 hg11 hb11
              obtain ⟨va11,vc11,rfl⟩:=owns_shape_r hown11
              have HO11:=Lib.hid hown11
              have HB11:=Lib.hid hb11
              have HR11:Hid (w11.rangeAt w8.heap.size 0 [.int .i64 k0,.int .i64 nf,.int .i64 nl,.int .i64 nz,.int .i64 n0,.int .i64 n1,.int .i64 n2,.int .i64 n3,.int .i64 ns,.int .i64 nt,.slice xo xm xc,.int .i64 nc]):=Lib.hid (fun j v hj=>hg11.cell (HR10.out j v hj) (fun e=>HNB.out e.symm))
              have q11:=(cell_of_heap (p:=⟨p,6,none⟩) (hb11.block p H10.out.lt.1)).trans q7
              have z11:=(frozen_of_heap (p:=⟨p,6,none⟩) (hb11.block p H10.out.lt.1)).trans (H10.out.fz 6)
              have HR12:Hid ((w11.setCell ⟨p,6,none⟩ (.slice va11 (k+1) vc11)).rangeAt w8.heap.size 0 [.int .i64 k0,.int .i64 nf,.int .i64 nl,.int .i64 nz,.int .i64 n0,.int .i64 n1,.int .i64 n2,.int .i64 n3,.int .i64 ns,.int .i64 nt,.slice xo xm xc,.int .i64 nc]):=Lib.hid (fun j v hj=>by rw [World.cell?_setCell_other (h:=by intro e;simp at e;have h1:=HPN.out;omega)];exact HR11.out j v hj)
              clear hown11 hg11 hb11
              refine hK.out _ _ ?_ (fun hHeld3=>?_)
              · exact HR11.out
              clear hK K
              try simp only [Act.put,List.setIfInBounds_toArray,List.set_cons_zero,List.set_cons_succ]
              refine wpAnyH_take (i:=8) (oi:=⟨some 109,_,_,_,_,_⟩) (v:=.pointer (some ⟨p,0,none⟩)) rfl (by kernel_rfl) (by kernel_rfl) (by kernel_rfl) (fun _ _ _ h=>h) (Or.inl ⟨by kernel_rfl,by intro w _;go_simp;(try omega)⟩) (by assumption) ?_
              try simp only [Act.put,List.setIfInBounds_toArray,List.set_cons_zero,List.set_cons_succ]
              refine wpAnyH_take (i:=9) (oi:=⟨some 110,_,_,_,_,_⟩) (v:=.pointer (some ⟨p,6,none⟩)) rfl (by kernel_rfl) (by kernel_rfl) (by kernel_rfl) (fun _ _ _ h=>h) (Or.inl ⟨by kernel_rfl,by intro w _;go_simp;(try omega)⟩) (by assumption) ?_
              try simp only [Act.put,List.setIfInBounds_toArray,List.set_cons_zero,List.set_cons_succ]
              refine wpAnyH_ready (rs:=[10]) (by kernel_rfl) (by simp) ?_
              refine AllReadyH.cons (o:=⟨none,_,_,_,_,_⟩) rfl (fun K hK=>?_) AllReadyH.nil
              go_simp
              refine hK.out _ _ ?_ (fun hHeld4=>?_)
              · exact HR12.out
              clear hK K
              try simp only [Act.put,List.setIfInBounds_toArray,List.set_cons_zero,List.set_cons_succ]
              refine wpAnyH_done (by kernel_rfl) ?_ _
              go_wp2_with fail
              go_roundw
              case rel=>exact ⟨k+1,.slice va11 (k+1) vc11,by omega,by go_num,Lib.hid ⟨(H10.out.step HB11.out HO11.out),fun j hj=>by
                by_cases e:j=k
                · rw [e];exact HIN.out
                · exact HJ.out.2 j (by omega)⟩⟩
              case measure=>simp [intOf];omega
        · have hit:k=32:=by omega
          subst hit
          have HVT:=Lib.hid (HVB.out HJ.out.2)
          have H9:=Lib.hid HJ.out.1
          clear HJ
          go_wp2_with fail
          go_ret2
          exact ⟨Or.inl ⟨HVT.out,p,rfl,⟨by rw [HSP.out];exact H9.out.su,⟨gu,cu,H9.out.c5,H9.out.cu5⟩,H9.out.c7⟩,H9.out.lt.2.2.2.2⟩,H9.out.bel⟩
end Go.Proofs.YtcefmpnijjcekaaGreatDoor
namespace Go.Proofs.YtcefmpnijjcekaaGreatDoor
open Go.RowKit
def ROpenDone (w:World) (B:List (List Int)) (ao:Option Addr) (m c:Nat) (e:Ending) (w':World):Prop:=
  ((openB B=true∧∃ p,e=.returned (.tuple #[.pointer (some ⟨p,0,none⟩),.bool true])∧VolAt w' p B ao m c∧w.heap.size≤p)∨(openB B=false∧e=.returned (.tuple #[.pointer none,.bool false])))∧Below w.heap.size w w'
theorem ROpen17_any {ao:Option Addr} {m c:Nat} {B:List (List Int)} (w:World) (hX:RowsIn w ao m c B) (hm:m≤140737488351232) :
    Calls Tryz.prog 6 #[.slice ao m c] w (ROpenDone w B ao m c):=by
  have hl:=hX.1
  by_cases h64:m < 64
  · refine (ROpen17_few w h64).mono (fun e w' h=>⟨Or.inr ⟨?_,h.1⟩,h.2⟩)
    unfold openB
    rw [volB_cut (fun k=>by have:=k.1;omega),Bool.and_false]
  · cases hlen:len64 B with
    | false=>
      refine (ROpen17_len w hX (by omega) hm hlen).mono (fun e w' h=>⟨Or.inr ⟨?_,h.1⟩,h.2⟩)
      unfold openB
      rw [hlen,Bool.false_and]
    | true=>
      by_cases hy:isSup (B.getD 0 [])=true∧(supAt B).a=(m:Int)∧isHead (B.getD 1 [])=true∧sealedB (B.getD 2 [])=true
      · refine (ROpen17_pos w hX (by omega) hm hlen hy).mono (fun e w' h=>⟨?_,h.2⟩)
        unfold openB
        rw [hlen,Bool.true_and]
        exact h.1
      · refine (ROpen17_neg w hX (by omega) hm hlen hy).mono (fun e w' h=>⟨Or.inr ⟨?_,h.1⟩,h.2⟩)
        unfold openB
        rw [volB_cut (fun k=>hy ⟨k.2.1,by rw [k.2.2.1,hl],k.2.2.2⟩),Bool.and_false]
theorem VolAt.later {w w':World} {p m c:Nat} {B:List (List Int)} {ao:Option Addr} (h:VolAt w p B ao m c) (hb:Below w.heap.size w w'):VolAt w' p B ao m c:=by
  obtain ⟨g,cu,h5,hu⟩:=h.up
  exact ⟨fun j v hv=>cell_later hb (h.sup j v hv),⟨g,cu,cell_later hb h5,fun j hj=>cell_later hb (hu j hj)⟩,cell_later hb h.bl⟩
def limOf (s:PSup):Int:=if s.c=2∧s.e < s.a then s.e else s.a
set_option maxRecDepth 100000 in
set_option maxHeartbeats 1600000 in
theorem RLimit_any {w:World} {p m c:Nat} {B:List (List Int)} {ao:Option Addr} (h:VolAt w p B ao m c) :
    Calls Tryz.prog 10 #[.pointer (some ⟨p,0,none⟩)] w fun e w'=>e=.returned (.int .i64 (limOf (supAt B)))∧Below w.heap.size w w':=by
  have s0:=h.sup 0 _ rfl
  have s2:=h.sup 2 _ rfl
  have s4:=h.sup 4 _ rfl
  rw [Nat.zero_add] at s0 s2 s4
  obtain ⟨x0,x1,x2,x3,x4,hX⟩:∃ x0 x1 x2 x3 x4,supAt B=⟨x0,x1,x2,x3,x4⟩:=⟨_,_,_,_,_,rfl⟩
  rw [hX] at s0 s2 s4 ⊢
  dsimp only at s0 s2 s4
  have S0:=Lib.hid s0
  have S4:=Lib.hid s4
  clear h hX
  by_cases hc:x2=2
  · have hc2:(x2 == 2)=true:=by simp [hc]
    by_cases hlt:x4 < x0
    · have HL:Hid (limOf ⟨x0,x1,x2,x3,x4⟩=x4):=Lib.hid (by unfold limOf;rw [if_pos ⟨hc,hlt⟩])
      clear hc
      go_enter Tryz.func10,Tryz.ntmps10
      go_wp2_with fail
      go_big_quiet (fail)
      have f0:=cell_later (below_drewN (Below.refl _ _) nq) S0.out
      have f4:=cell_later (below_drewN (Below.refl _ _) nq) S4.out
      have HB:=Lib.hid (below_drewN (Below.refl w.heap.size w) nq)
      go_wp2_with fail
      go_ret
      exact ⟨by rw [HL.out];rfl,HB.out⟩
    · have HL:Hid (limOf ⟨x0,x1,x2,x3,x4⟩=x0):=Lib.hid (by unfold limOf;rw [if_neg (fun h=>hlt h.2)])
      clear hc
      have hge:x0≤x4:=by omega
      clear hlt
      go_enter Tryz.func10,Tryz.ntmps10
      go_wp2_with fail
      go_big_quiet (fail)
      have f0:=cell_later (below_drewN (Below.refl _ _) nq) S0.out
      have f4:=cell_later (below_drewN (Below.refl _ _) nq) S4.out
      have HB:=Lib.hid (below_drewN (Below.refl w.heap.size w) nq)
      go_wp2_with fail
      go_ret
      exact ⟨by rw [HL.out];rfl,HB.out⟩
  · have HL:Hid (limOf ⟨x0,x1,x2,x3,x4⟩=x0):=Lib.hid (by unfold limOf;rw [if_neg (fun h=>hc h.1)])
    have hc2:(x2 == 2)=false:=by simp [hc]
    clear hc
    go_enter Tryz.func10,Tryz.ntmps10
    go_wp2_with fail
    go_big_quiet (fail)
    have f0:=cell_later (below_drewN (Below.refl _ _) nq) S0.out
    have f4:=cell_later (below_drewN (Below.refl _ _) nq) S4.out
    have HB:=Lib.hid (below_drewN (Below.refl w.heap.size w) nq)
    go_wp2_with fail
    go_ret
    exact ⟨by rw [HL.out];rfl,HB.out⟩
end Go.Proofs.YtcefmpnijjcekaaGreatDoor
namespace Go.Proofs.YtcefmpnijjcekaaGreatDoor
open Go.RowKit
def dnOf (f:Nat→Bool) (k:Nat):Int:=(k:Int) - 59 - ((cnt f k:Nat) - (cnt f 59:Nat))
theorem dnOf_start (f:Nat→Bool):dnOf f 59=0:=by unfold dnOf;omega
theorem dnOf_up {f:Nat→Bool} {k:Nat} (h:f k=true):dnOf f (k+1)=dnOf f k:=by
  have e:cnt f (k+1)=cnt f k+1:=by show cnt f k+(if f k then 1 else 0)=_;rw [h];rfl
  unfold dnOf
  rw [e]
  omega
theorem dnOf_down {f:Nat→Bool} {k:Nat} (h:f k=false):dnOf f (k+1)=dnOf f k+1:=by
  have e:cnt f (k+1)=cnt f k:=by show cnt f k+(if f k then 1 else 0)=_;rw [h];rfl
  unfold dnOf
  rw [e]
  omega
theorem dnOf_small (f:Nat→Bool) {k:Nat} (h:k≤480):-1000≤dnOf f k∧dnOf f k≤1000:=by
  have h1:=cnt_le f k
  have h2:=cnt_le f 59
  unfold dnOf
  omega
theorem VolOk.limit {B:List (List Int)} (h:VolOk B):∃ k:Nat,limOf (supAt B)=k∧k≤480∧endOf (supAt B)=((max 59 k:Nat):Int):=by
  have hs:=of_decide_eq_true h.super
  have hz:=h.siz
  have h64:=h.n64
  refine ⟨(limOf (supAt B)).toNat,?_,?_,?_⟩ <;> unfold limOf <;> (try unfold endOf) <;> (repeat' split) <;> omega
theorem VolOk.free_is {B:List (List Int)} (h:VolOk B) {k:Nat} (hk:endOf (supAt B)=((max 59 k:Nat):Int)):freeB B=dnOf (flag (flagsAt B)) (max 59 k):=by
  unfold freeB freeOf dnOf
  rw [hk,Int.toNat_natCast]
set_option maxRecDepth 100000 in
set_option maxHeartbeats 1600000 in
theorem RFree_any {w:World} {p m c:Nat} {B:List (List Int)} {ao:Option Addr} (h:VolAt w p B ao m c) (hV:VolOk B) :
    Calls Tryz.prog 9 #[.pointer (some ⟨p,0,none⟩)] w fun e w'=>e=.returned (.int .i64 (freeB B))∧Below w.heap.size w w':=by
  obtain ⟨k,hk,h480,hend⟩:=hV.limit
  obtain ⟨g,cu,h5,hu⟩:=h.up
  have HL:Hid (∀ W,Below w.heap.size w W→Calls Tryz.prog 10 #[.pointer (some ⟨p,0,none⟩)] W fun e w'=>e=.returned (.int .i64 (k:Int))∧Below W.heap.size W w'):=Lib.hid (fun W hW=>by
    have c:=RLimit_any (h.later hW)
    rw [hk] at c
    exact c)
  have H5:=Lib.hid h5
  have HU:=Lib.hid hu
  have HF:=Lib.hid (hV.free_is hend)
  obtain ⟨f,hf⟩:∃ f,flag (flagsAt B)=f:=⟨_,rfl⟩
  rw [hf] at HU HF
  clear h hV hk hend h5 hu hf
  go_enter Tryz.func9,Tryz.ntmps9
  go_wp2_with fail
  have HJ0:Hid (Below w.heap.size w w):=Lib.hid (Below.refl _ _)
  go_loopw [3,4] (fun nv iv wr=>∃ i:Nat,59≤i∧i≤max 59 k∧nv=.int .i64 (dnOf f i)∧iv=.int .i64 i∧Hid (Below w.heap.size w wr)) (fun _ iv _=>480 - (intOf iv).toNat)
  case atStart=>exact ⟨59,Nat.le_refl _,by omega,by rw [dnOf_start],rfl,HJ0⟩
  case round=>
    obtain ⟨i,h59,hi,rfl,rfl,HJ⟩:=hrel
    clear HJ0
    have cL:=HL.out wr HJ.out
    by_cases hlt:i < k
    · have i2:(i:Int) < (k:Int):=by omega
      have i3:(i:Int) < 480:=by omega
      have i4:i < 480:=by omega
      have hsm:=dnOf_small f (k:=i) (by omega)
      obtain ⟨d,hd⟩:∃ d,dnOf f i=d:=⟨_,rfl⟩
      rw [hd] at hsm ⊢
      have u0:=HU.out i i4
      cases hfi:f i with
      | true=>
        have HD:Hid (dnOf f (i+1)=d):=Lib.hid (by rw [dnOf_up hfi,hd])
        rw [hfi] at u0
        clear hfi hd
        go_wp2_with (go_at_call 10;refine cL.mono ?_;rintro e w2 ⟨rfl,hb⟩;have HB2:=Lib.hid (HJ.out.trans (hb.mono HJ.out.size));have q5:=cell_later HB2.out H5.out;have q6:=cell_later HB2.out u0;clear hb cL)
        go_roundw
        case rel=>exact ⟨i+1,by omega,by omega,by rw [HD.out],by go_num,HB2⟩
        case measure=>simp [intOf];omega
      | false=>
        have HD:Hid (dnOf f (i+1)=d+1):=Lib.hid (by rw [dnOf_down hfi,hd])
        rw [hfi] at u0
        clear hfi hd
        go_wp2_with (go_at_call 10;refine cL.mono ?_;rintro e w2 ⟨rfl,hb⟩;have HB2:=Lib.hid (HJ.out.trans (hb.mono HJ.out.size));have q5:=cell_later HB2.out H5.out;have q6:=cell_later HB2.out u0;clear hb cL)
        go_roundw
        case rel=>exact ⟨i+1,by omega,by omega,by rw [HD.out],by go_num,HB2⟩
        case measure=>simp [intOf];omega
    · have hit:i=max 59 k:=by omega
      have i2:(k:Int)≤(i:Int):=by omega
      have HD:Hid (freeB B=dnOf f i):=Lib.hid (by rw [HF.out,hit])
      clear hit hlt hi
      go_wp2_with (go_at_call 10;refine cL.mono ?_;rintro e w2 ⟨rfl,hb⟩;have HB2:=Lib.hid (HJ.out.trans (hb.mono HJ.out.size));clear hb cL)
      go_ret
      exact ⟨by rw [HD.out];rfl,HB2.out⟩
end Go.Proofs.YtcefmpnijjcekaaGreatDoor
namespace Go.Proofs.YtcefmpnijjcekaaGreatDoor
open Go.RowKit
theorem gaps_cover (f:Nat→Bool):∀ (k first n:Nat),first≤n→(∀ i,first≤i→i < n→f i=true)→∀ a m,1≤m→first≤a→a+m≤n+k→(∀ b,a≤b→b < a+m→f b=true)→∃ p ∈ gaps f first n k,m≤p.2
  | 0,first,n,hle,hf,a,m,h1,ha,hb,hd=>by
    refine ⟨(first,n - first),?_,?_⟩
    · unfold gaps
      rw [if_pos (by omega)]
      exact List.mem_singleton.2 rfl
    · show m≤n - first
      omega
  | k+1,first,n,hle,hf,a,m,h1,ha,hb,hd=>by
    unfold gaps
    by_cases hn:f n=true
    · rw [if_pos hn]
      exact gaps_cover f k first (n+1) (by omega) (fun i h2 h3=>by
        by_cases e:i=n
        · rw [e];exact hn
        · exact hf i h2 (by omega)) a m h1 ha (by omega) hd
    · rw [if_neg hn]
      by_cases hc:a+m≤n
      · rw [if_pos (by omega)]
        exact ⟨(first,n - first),List.mem_cons_self,by show m≤n - first;omega⟩
      · have han:n+1≤a:=by
          rcases Nat.lt_or_ge n a with h | h
          · exact h
          · exact absurd (hd n h (by omega)) hn
        obtain ⟨p,hp,hm⟩:=gaps_cover f k (n+1) (n+1) (Nat.le_refl _) (fun i h2 h3=>by omega) a m h1 han (by omega) hd
        refine ⟨p,?_,hm⟩
        split
        · exact List.mem_cons_of_mem _ hp
        · exact hp
def RunIn (f:List Int) (n hi:Nat):Prop:=∃ a,59≤a∧a+n≤hi∧∀ b,a≤b→b < a+n→flag f b=false
theorem tight_of_run {f:List Int} {n hi:Nat} (hl:f.length=60) (h0:59≤hi) (h1:hi≤480) (hn:1≤n) (h:RunIn f n hi):∃ p,tightGap (downOut f 59 hi) n=some p:=by
  obtain ⟨a,h2,h3,h4⟩:=h
  have hE:downErr f.length 59 hi=0:=by unfold downErr;rw [if_pos hl,if_neg (by omega)]
  cases ht:tightGap (downOut f 59 hi) n with
  | some p=>exact ⟨p,rfl⟩
  | none=>
    exfalso
    have hs:=tight_none ht
    have hd:downOut f 59 hi=gaps (downs f) 59 59 (hi - 59):=by
      unfold downOut
      rw [if_pos hE,show Int.toNat (59:Int)=59 from rfl,show Int.toNat (hi:Int)=hi by omega]
    obtain ⟨p,hp,hm⟩:=gaps_cover (downs f) (hi - 59) 59 59 (Nat.le_refl _) (fun i h2 h3=>by omega) a n hn h2 (by omega) (fun b hb1 hb2=>by unfold downs;rw [h4 b hb1 hb2];rfl)
    rw [← hd] at hp
    have:=hs p hp
    omega
structure Fine (f:List Int) (hi:Nat) (L:List Int):Prop where
  each:∀ x ∈ L,∃ y:Nat,x=y∧59≤y∧y < hi∧flag f y=false
  rise:L.Pairwise (· < ·)
theorem fine_runs {f:List Int} {hi:Nat}:∀ (rs:List (Nat × Nat)),(∀ r ∈ rs,59≤r.1∧r.1+r.2≤hi∧∀ b,r.1≤b→b < r.1+r.2→flag f b=false)→rs.Pairwise (fun a b=>a.1+a.2≤b.1)→Fine f hi (runBlks rs)
  | [],_,_=>⟨by intro x hx;simp [runBlks] at hx,by simp [runBlks]⟩
  | r::rs,h,hp=>by
    have hp':=List.pairwise_cons.1 hp
    have ih:=fine_runs rs (fun q hq=>h q (List.mem_cons_of_mem _ hq)) hp'.2
    have hr:=h r List.mem_cons_self
    have e:runBlks (r::rs)=(List.range r.2).map (fun (i:Nat)=>(r.1:Int)+(i:Int)) ++ runBlks rs:=by unfold runBlks;rw [List.flatMap_cons]
    rw [e]
    refine ⟨fun x hx=>?_,List.pairwise_append.2 ⟨?_,ih.rise,fun x hx y hy=>?_⟩⟩
    · rcases List.mem_append.1 hx with hx | hx
      · obtain ⟨k,hk,rfl⟩:=List.mem_map.1 hx
        have hk:=List.mem_range.1 hk
        exact ⟨r.1+k,by omega,by omega,by omega,hr.2.2 _ (by omega) (by omega)⟩
      · exact ih.each x hx
    · rw [List.pairwise_map]
      exact List.pairwise_lt_range.imp (fun {a b} hab=>by omega)
    · obtain ⟨k,hk,rfl⟩:=List.mem_map.1 hx
      have hk:=List.mem_range.1 hk
      unfold runBlks at hy
      obtain ⟨q,hq,hy⟩:=List.mem_flatMap.1 hy
      obtain ⟨j,hj,rfl⟩:=List.mem_map.1 hy
      have:=hp'.1 q hq
      omega
theorem down_in {f:List Int} {hi:Nat} (hl:f.length=60) (h0:59≤hi) (h1:hi≤480):∀ p ∈ downOut f 59 hi,59≤p.1∧1≤p.2∧p.1+p.2≤hi∧∀ b,p.1≤b→b < p.1+p.2→flag f b=false:=by
  have hE:downErr f.length 59 hi=0:=by unfold downErr;rw [if_pos hl,if_neg (by omega)]
  intro p hp
  unfold downOut at hp
  rw [if_pos hE,show Int.toNat (59:Int)=59 from rfl,show Int.toNat (hi:Int)=hi by omega] at hp
  obtain ⟨g1,g2,g3,g4⟩:=gaps_mem (downs f) (hi - 59) 59 59 (Nat.le_refl _) (fun i h2 h3=>by omega) p hp
  refine ⟨g1,g2,by omega,fun b hb1 hb2=>?_⟩
  have:=g4 b hb1 hb2
  unfold downs at this
  simpa using this
theorem fine_pick {f:List Int} {n hi:Nat} (hl:f.length=60) (h0:59≤hi) (h1:hi≤480):Fine f hi (pickL f n hi):=by
  have hd:=down_in hl h0 h1
  unfold pickL
  by_cases hz:n=0
  · rw [if_pos hz]
    exact ⟨by intro x hx;simp at hx,List.Pairwise.nil⟩
  · rw [if_neg hz]
    cases ht:tightGap (downOut f 59 hi) n with
    | some p=>
      have hq:=tight_mem ht
      have hb:=hd p hq.1
      refine fine_runs _ (fun r hr=>?_) (List.pairwise_singleton _ _)
      rw [List.mem_singleton.1 hr]
      exact ⟨hb.1,by show p.1+n≤hi;omega,fun b h2 h3=>hb.2.2.2 b h2 (by have h3:b < p.1+n:=h3;omega)⟩
    | none=>
      refine fine_runs _ (fun r hr=>?_) (some_apart (down_rise f 59 hi).pairs (fun q hq=>(hd q hq).2.1) n)
      obtain ⟨q,hq,e1,e2,e3⟩:=some_mem (fun q hq=>(hd q hq).2.1) r hr
      have hb:=hd q hq
      exact ⟨by omega,by omega,fun b h2 h3=>hb.2.2.2 b (by omega) (by omega)⟩
theorem one_pick {f:List Int} {n hi:Nat} (hl:f.length=60) (h0:59≤hi) (h1:hi≤480) (hn:1≤n) (h:RunIn f n hi):∃ a:Nat,pickL f n hi=(List.range n).map fun (i:Nat)=>(a:Int)+(i:Int):=by
  obtain ⟨p,hp⟩:=tight_of_run hl h0 h1 hn h
  refine ⟨p.1,?_⟩
  unfold pickL
  rw [if_neg (by omega),hp]
  simp [runBlks]
theorem cnt_one (f:Nat→Bool) (a:Nat) (h:f a=false) (N:Nat):cnt (fun n=>if n=a then true else f n) N=cnt f N+(if a < N then 1 else 0):=by
  rw [cnt_range (f:=f) (a:=a) (b:=1) (fun i h1 h2=>by rw [show i=a by omega];exact h) N (fun n hn=>by
    by_cases e:n=a
    · rw [if_pos e,if_pos (by omega)]
    · rw [if_neg e,if_neg (by omega)])]
  split <;> omega
theorem cnt_many {f:Nat→Bool}:∀ (L:List Int),(∀ x ∈ L,∃ y:Nat,x=y∧f y=false)→L.Pairwise (· < ·)→∀ (N:Nat),(∀ x ∈ L,x < (N:Int))→cnt (fun n=>if (n:Int) ∈ L then true else f n) N=cnt f N+L.length
  | [],_,_,N,_=>by
    refine (cnt_congr (fun i _=>?_)).trans (Nat.add_zero _).symm
    rw [if_neg (by simp)]
  | x::L,h,hp,N,hN=>by
    have hp':=List.pairwise_cons.1 hp
    have ih:=cnt_many L (fun y hy=>h y (List.mem_cons_of_mem _ hy)) hp'.2 N (fun y hy=>hN y (List.mem_cons_of_mem _ hy))
    obtain ⟨y,rfl,hy⟩:=h x List.mem_cons_self
    have hlt:=hN _ List.mem_cons_self
    have hno:¬ (y:Int) ∈ L:=fun hm=>by have:=hp'.1 _ hm;omega
    have e:=cnt_one (fun n=>if (n:Int) ∈ L then true else f n) y (by show (if (y:Int) ∈ L then true else f y)=false;rw [if_neg hno,hy]) N
    rw [if_pos (by omega),ih] at e
    rw [List.length_cons]
    refine (cnt_congr (fun i _=>?_)).trans (e.trans (by omega))
    by_cases e1:i=y
    · subst e1
      rw [if_pos List.mem_cons_self,if_pos rfl]
    · rw [if_neg e1]
      have:((i:Int) ∈ (y:Int)::L) ↔ ((i:Int) ∈ L):=by
        rw [List.mem_cons]
        exact ⟨fun h=>h.resolve_left (by omega),Or.inr⟩
      simp only [this]
structure TakeF (B:List (List Int)) (n k:Nat) (L:List Int):Prop where
  len:L.length=n
  each:∀ (i:Nat) (x:Int),L[i]?=some x→∃ y:Nat,x=y∧59≤y∧y < k∧flag (flagsAt B) y=false∧flag (flagsAt (takeB B n)) y=true
  apart:∀ (i j:Nat) (x y:Int),j < i→L[i]?=some x→L[j]?=some y→y < x
  one:RunIn (flagsAt B) n (max 59 k)→∀ (i:Nat) (x y:Int),L[i]?=some x→L[0]?=some y→x=y+(i:Int)
  vol:VolOk (takeB B n)
  blen:(takeB B n).length=B.length
  sup:supAt (takeB B n)=supAt B
  free:freeB (takeB B n)=freeB B - (n:Int)
  is:takeE B n=0∧takeL B n=L
theorem take_is {B:List (List Int)} (hV:VolOk B) {n k:Nat} (hk:endOf (supAt B)=((max 59 k:Nat):Int)) (h60:(flagsAt B).length=60) (hn:(n:Int)≤freeB B):∃ L,TakeF B n k L:=by
  have h480:=hV.n64.2
  obtain ⟨hi,he,h59,hle⟩:=hV.ends
  have hhi:hi=max 59 k:=by omega
  have heN:(endOf (supAt B)).toNat=hi:=by omega
  have hE:takeE B n=0:=by
    unfold takeE pickE
    rw [if_neg]
    unfold freeB at hn
    omega
  have hL:takeL B n=pickL (flagsAt B) n hi:=by
    unfold takeL
    rw [if_pos hE,heN]
  obtain ⟨rs,hr1,hr2,hr3⟩:=pick_runs (flagsAt B) n hi (by unfold takeE at hE;rw [heN] at hE;exact hE) h60 h59 (by omega)
  have hF:=fine_pick (f:=flagsAt B) (n:=n) h60 h59 (by omega:hi≤480)
  obtain ⟨L,hLd⟩:∃ L,pickL (flagsAt B) n hi=L:=⟨_,rfl⟩
  rw [hLd] at hr1 hr3 hF hL
  have hB:takeB B n=withFlags B (markL (flagsAt B) true L):=by
    unfold takeB
    rw [if_pos hE,hL]
  have h60':(markL (flagsAt B) true L).length=60:=markP_length _ _ _
  have h2:2 < B.length:=by have:=hV.n64.1;omega
  have hfl:flagsAt (takeB B n)=markL (flagsAt B) true L:=by
    rw [hB]
    exact flags_withFlags h2 h60'
  have hsup:supAt (takeB B n)=supAt B:=by
    rw [hB]
    exact sup_withFlags _ _
  have hpos:∀ x ∈ L,0≤x:=fun x hx=>by
    obtain ⟨y,e,_⟩:=hF.each x hx
    omega
  have hmark:∀ m,m < 480→flag (flagsAt (takeB B n)) m=if (m:Int) ∈ L then true else flag (flagsAt B) m:=fun m hm=>by
    rw [hfl]
    unfold markL
    rw [flag_markP _ _ _ hm]
    unfold markF
    by_cases hm0:(m:Int) ∈ L
    · obtain ⟨y,e,h3,_⟩:=hF.each _ hm0
      rw [if_pos hm0,if_pos ((inRuns_of hpos).2 ⟨hm0,by omega⟩)]
    · rw [if_neg hm0,if_neg (fun h=>hm0 ((inRuns_of hpos).1 h).1)]
  have hend:endOf (supAt (takeB B n))=endOf (supAt B):=by rw [hsup]
  refine ⟨L,hr3,fun i x hx=>?_,fun i j x y hij hx hy=>?_,fun hrun i x y hx hy=>?_,?_,?_,hsup,?_,hE,hL⟩
  · have hm:=List.mem_of_getElem? hx
    obtain ⟨y,e,h3,h4,h5⟩:=hF.each x hm
    refine ⟨y,e,h3,by omega,h5,?_⟩
    rw [hmark y (by omega),if_pos (by rw [← e];exact hm)]
  · obtain ⟨hi',ei⟩:=List.getElem?_eq_some_iff.1 hx
    obtain ⟨hj',ej⟩:=List.getElem?_eq_some_iff.1 hy
    have:=List.pairwise_iff_getElem.1 hF.rise j i hj' hi' hij
    rw [ei,ej] at this
    exact this
  · have hn1:1≤n:=by
      have:=(List.getElem?_eq_some_iff.1 hx).1
      omega
    obtain ⟨a,h3,h4,h5⟩:=hrun
    obtain ⟨b,hb⟩:=one_pick h60 h59 (by omega) hn1 ⟨a,h3,by omega,h5⟩
    rw [hLd] at hb
    rw [hb] at hx hy
    rw [List.getElem?_map] at hx hy
    obtain ⟨i',hi',rfl⟩:=Option.map_eq_some_iff.1 hx
    obtain ⟨j',hj',rfl⟩:=Option.map_eq_some_iff.1 hy
    obtain ⟨hi1,hi2⟩:=List.getElem?_eq_some_iff.1 hi'
    obtain ⟨hj1,hj2⟩:=List.getElem?_eq_some_iff.1 hj'
    rw [List.getElem_range] at hi2 hj2
    omega
  · rw [hB]
    exact hV.withFlags h60'
  · rw [hB]
    unfold withFlags
    exact List.length_set
  · unfold freeB freeOf
    rw [hend,heN]
    have hx:∀ x ∈ L,∃ y:Nat,x=y∧flag (flagsAt B) y=false:=fun x hx=>by
      obtain ⟨y,e,_,_,h⟩:=hF.each x hx
      exact ⟨y,e,h⟩
    have c1:cnt (flag (flagsAt (takeB B n))) hi=cnt (flag (flagsAt B)) hi+L.length:=by
      rw [cnt_congr (g:=fun m=>if (m:Int) ∈ L then true else flag (flagsAt B) m) (fun i hi'=>hmark i (by omega))]
      exact cnt_many L hx hF.rise hi (fun x hx=>by obtain ⟨y,e,_,h,_⟩:=hF.each x hx;omega)
    have c2:cnt (flag (flagsAt (takeB B n))) 59=cnt (flag (flagsAt B)) 59:=cnt_congr (fun i hi'=>by
      rw [hmark i (by omega),if_neg (fun hm=>by obtain ⟨y,e,h,_⟩:=hF.each _ hm;omega)])
    rw [c1,c2,hr3]
    omega
structure LongI (f:List Int) (i s l:Nat):Prop where
  le:s+59≤i
  dn:∀ b,i - s≤b→b < i→flag f b=false
  run:RunIn f l i
theorem RunIn.mono {f:List Int} {n m i j:Nat} (h:RunIn f n i) (hm:m≤n) (hi:i≤j):RunIn f m j:=by
  obtain ⟨a,h1,h2,h3⟩:=h
  exact ⟨a,h1,by omega,fun b hb1 hb2=>h3 b hb1 (by omega)⟩
theorem RunIn.le {f:List Int} {n i:Nat} (h:RunIn f n i):n+59≤i:=by
  obtain ⟨a,h1,h2,h3⟩:=h
  omega
theorem LongI.start (f:List Int):LongI f 59 0 0:=⟨Nat.le_refl _,fun b h1 h2=>by omega,⟨59,Nat.le_refl _,by omega,fun b h1 h2=>by omega⟩⟩
theorem LongI.up {f:List Int} {i s l:Nat} (h:LongI f i s l):LongI f (i+1) 0 l:=⟨by have:=h.le;omega,fun b h1 h2=>by omega,h.run.mono (Nat.le_refl _) (by omega)⟩
theorem LongI.downs {f:List Int} {i s l:Nat} (h:LongI f i s l) (hd:flag f i=false):∀ b,i+1 - (s+1)≤b→b < i+1→flag f b=false:=fun b h1 h2=>by
  by_cases e:b=i
  · rw [e];exact hd
  · exact h.dn b (by omega) (by omega)
theorem LongI.down {f:List Int} {i s l:Nat} (h:LongI f i s l) (hd:flag f i=false):LongI f (i+1) (s+1) l:=⟨by have:=h.le;omega,h.downs hd,h.run.mono (Nat.le_refl _) (by omega)⟩
theorem LongI.more {f:List Int} {i s l:Nat} (h:LongI f i s l) (hd:flag f i=false):LongI f (i+1) (s+1) (s+1):=
  ⟨by have:=h.le;omega,h.downs hd,⟨i - s,by have:=h.le;omega,by have:=h.le;omega,fun b h1 h2=>h.downs hd b (by omega) (by have:=h.le;omega)⟩⟩
end Go.Proofs.YtcefmpnijjcekaaGreatDoor
namespace Go.Proofs.YtcefmpnijjcekaaGreatDoor
open Go.RowKit
theorem rw_byte {w:World} {g:Nat} {L:List (List Int)} (h:Rw w g L) (h0:0 < L.length):∃ z,w.cell? ⟨g,0,none⟩=some (.int .u8 z):=⟨_,h.2.1 0 (by rw [flatten_len h.1];omega)⟩
theorem foot_cell {w:World} {a:Addr} {F:Nat→Prop} {I:Img} (h:ImgI w a F I) {k:Nat} (hk:F k):(∃ z,w.cell? ⟨k,0,none⟩=some (.int .u8 z))∨∃ x n c,w.cell? ⟨k,0,none⟩=some (.slice x n c):=by
  obtain ⟨p,gb,gl,gs,cb,cl,cs,rfl,h,rfl⟩:=h
  rcases hk with rfl | rfl | rfl | rfl
  · exact Or.inr ⟨_,_,_,h.c0⟩
  · exact Or.inl (rw_byte h.rb h.n0.1)
  · exact Or.inl (rw_byte h.rl (by rw [h.nl];exact h.n0.1))
  · exact Or.inl (rw_byte h.rs h.ns.1)
theorem VolAt.grew {w w':World} {p m c:Nat} {B:List (List Int)} {ao:Option Addr} {a:Addr} {F:Nat→Prop} {I:Img} (h:VolAt w p B ao m c) (hI:ImgI w a F I) (hG:Grew F F w w'):VolAt w' p B ao m c:=by
  obtain ⟨g,cu,h5,hu⟩:=h.up
  have s0:=h.sup 0 _ rfl
  have u0:=hu 0 (by decide)
  have hp:p < w.heap.size:=World.block_lt_of_cell? _ _ h5
  have hg:g < w.heap.size:=World.block_lt_of_cell? _ _ u0
  have np:¬ F p:=fun hf=>by
    rcases foot_cell hI hf with ⟨z,e⟩ | ⟨x,n,c,e⟩
    · rw [show 0+0=0 from rfl,e] at s0;cases s0
    · rw [show 0+0=0 from rfl,e] at s0;cases s0
  have ng:¬ F g:=fun hf=>by
    rcases foot_cell hI hf with ⟨z,e⟩ | ⟨x,n,c,e⟩
    · rw [e] at u0;cases u0
    · rw [e] at u0;cases u0
  have cp:∀ j,w'.cell? ⟨p,j,none⟩=w.cell? ⟨p,j,none⟩:=fun j=>cell_of_heap (p:=⟨p,j,none⟩) (hG.block hp np)
  have cg:∀ j,w'.cell? ⟨g,j,none⟩=w.cell? ⟨g,j,none⟩:=fun j=>cell_of_heap (p:=⟨g,j,none⟩) (hG.block hg ng)
  exact ⟨fun j v hv=>by rw [cp];exact h.sup j v hv,⟨g,cu,by rw [cp];exact h5,fun j hj=>by rw [cg];exact hu j hj⟩,by rw [cp];exact h.bl⟩
theorem open_vol {B:List (List Int)} (h:openB B=true):VolOk B∧R64 B:=by
  unfold openB at h
  rw [Bool.and_eq_true] at h
  exact ⟨volB_iff.1 h.2,fun j hj=>len64_iff.1 h.1 j hj⟩
theorem vol_open {B:List (List Int)} (hV:VolOk B) (hR:R64 B):openB B=true:=by
  unfold openB
  rw [Bool.and_eq_true]
  exact ⟨len64_iff.2 hR,volB_iff.2 hV⟩
end Go.Proofs.YtcefmpnijjcekaaGreatDoor
namespace Go.Proofs.YtcefmpnijjcekaaGreatDoor
open Go.RowKit
theorem iblocks_rows {w:World} {a:Addr} {F:Nat→Prop} {I:Img} (h:ImgI w a F I) (n:Nat) (hn:I.bl.length=n) (h0:0 < n) :
    Calls Tryz.prog 11 #[.pointer (some a)] w fun e w'=>∃ g cap,e=.returned (.slice (some ⟨g,0,none⟩) n cap)∧RowsIn w' (some ⟨g,0,none⟩) n cap I.bl∧Below w.heap.size w w':=by
  refine (iblocks_any h).mono ?_
  rintro e w' ⟨v,rfl,ho,hb⟩
  obtain ⟨g,cap,rfl,hc,hg,hr⟩:=ho.rows (by omega)
  have h2:=hr 0 n (by omega)
  rw [List.drop_zero,List.take_of_length_le (by omega),Nat.sub_zero] at h2
  rw [hn]
  exact ⟨_,_,rfl,h2,hb⟩
end Go.Proofs.YtcefmpnijjcekaaGreatDoor
namespace Go.Proofs.YtcefmpnijjcekaaGreatDoor.imageTakes
open Go
set_option maxRecDepth 100000
theorem jn1:(Rows.imageTakesUptoRow.wf (OpenSpec.ofChange (Rows.OpenSpec.upto Rows.imageTakesSpec).bare))=true:=by kernel_rfl
theorem jn2:(laidOutB Tryz.pinned.checked.prog)=true:=by kernel_rfl
theorem jn3:(mapsRowed Tryz.pinned.checked.prog)=true:=by kernel_rfl
theorem jn4:(Tryz.f3.params.all (Program.readableRec Tryz.pinned.checked.prog ·))=true:=by kernel_rfl
theorem jn5:(namedTie Tryz.pinned.checked.prog Rows.imageTakesUptoRow.named (Rows.OpenSpec.upto Rows.imageTakesSpec).bare.vars)=true:=by kernel_rfl
theorem jn6:((Rows.imageTakesUptoRow.stops == []))=true:=by kernel_rfl
theorem jn7:((Program.stops Tryz.pinned.checked.prog == []))=true:=by kernel_rfl
theorem jn8:((Rows.imageTakesUptoRow.knobs == []))=true:=by kernel_rfl
theorem jn9:((Program.stopKnobs Tryz.pinned.checked.prog == []))=true:=by kernel_rfl
theorem jn10:((Rows.imageTakesUptoRow.inPlace == Program.inPlace Tryz.pinned.checked.prog 3))=true:=by kernel_rfl
theorem jn11:((Rows.imageTakesUptoRow.unfollowed == Program.unfollowed Tryz.pinned.checked.prog 3))=true:=by kernel_rfl
theorem jn12:((Rows.imageTakesUptoRow.recurses == Program.recurses Tryz.pinned.checked.prog 3))=true:=by kernel_rfl
theorem jn13:((Rows.imageTakesUptoRow.named == Program.varsNamed Tryz.pinned.checked.prog 3))=true:=by kernel_rfl
theorem jn14:((Rows.imageTakesUptoRow.maps == (Tryz.f3.params.toList ++ (Rows.OpenSpec.upto Rows.imageTakesSpec).bare.plain.varTypes Tryz.pinned.checked.prog).any (Program.mapsRec Tryz.pinned.checked.prog ·)))=true:=by kernel_rfl
theorem jn15:((Rows.imageTakesUptoRow.ifaces == (Tryz.f3.params.toList ++ (Rows.OpenSpec.upto Rows.imageTakesSpec).bare.plain.varTypes Tryz.pinned.checked.prog).any (Program.ifacesRec Tryz.pinned.checked.prog ·)))=true:=by kernel_rfl
theorem jn16:((Rows.imageTakesUptoRow.mapsOut == Program.mapsAmong Tryz.pinned.checked.prog Tryz.f3.resultTypes.toList))=true:=by kernel_rfl
theorem jn17:((Rows.imageTakesUptoRow.loops == (Tryz.f3.params.toList ++ (Rows.OpenSpec.upto Rows.imageTakesSpec).bare.plain.varTypes Tryz.pinned.checked.prog).any (Program.loopsFrom Tryz.pinned.checked.prog ·)))=true:=by kernel_rfl
theorem jn18:((Rows.imageTakesUptoRow.wideKeys == (Tryz.f3.params.toList ++ (Rows.OpenSpec.upto Rows.imageTakesSpec).bare.plain.varTypes Tryz.pinned.checked.prog ++ Tryz.f3.resultTypes.toList).any (Program.wideKeysFrom Tryz.pinned.checked.prog ·)))=true:=by kernel_rfl
theorem jn19:((Rows.OpenSpec.upto Rows.imageTakesSpec).bare.vars.all (Program.varReadable Tryz.pinned.checked.prog ·))=true:=by kernel_rfl
theorem jn20:(Tryz.f3.resultTypes.all (fun t=>Program.readableRec Tryz.pinned.checked.prog t&&decide (t < Tryz.pinned.checked.prog.types.size)))=true:=by kernel_rfl
theorem jn21:((Rows.imageTakesUptoRow.ifacesOut == Tryz.f3.resultTypes.toList.any (Program.ifacesRec Tryz.pinned.checked.prog ·)))=true:=by kernel_rfl
theorem jn22:((Rows.imageTakesUptoRow.loopsOut == Tryz.f3.resultTypes.toList.any (Program.loopsFrom Tryz.pinned.checked.prog ·)))=true:=by kernel_rfl
theorem jn23:((Rows.imageTakesUptoRow.plainKeys == Program.plainKeys Tryz.pinned.checked.prog))=true:=by kernel_rfl
theorem jn24:(Rows.imageTakesUptoRow.shortTexts.isNone)=true:=by kernel_rfl
theorem jn25:(Program.stopsHeard Tryz.pinned.checked.prog)=true:=by kernel_rfl
theorem jn26:(Program.mayEnter Tryz.pinned.checked.prog)=true:=by kernel_rfl
theorem jn27:((Rows.imageTakesUptoRow.lifted == Program.liftsFinal Tryz.pinned.checked.prog))=true:=by kernel_rfl
theorem jn28:((Tryz.pinned.checked.prog.make == some Rows.imageTakesUptoRow.make))=true:=by kernel_rfl
theorem jn29:((Rows.imageTakesUptoRow.kinds == (if Rows.imageTakesUptoRow.domain.isEmpty then [] else Tryz.f3.params.toList.map fun t=>match Program.underlying Tryz.pinned.checked.prog t with | some (.int k)=>some k | _=>none)))=true:=by kernel_rfl
theorem jn30:((Rows.imageTakesUptoRow.pinned == Rows.imageTakesUptoRow.pinnedBy))=true:=by kernel_rfl
theorem jn31:((Rows.imageTakesUptoRow.veiled == (Tryz.f3.params.toList ++ (Rows.OpenSpec.upto Rows.imageTakesSpec).bare.plain.varTypes Tryz.pinned.checked.prog ++ Tryz.f3.resultTypes.toList).any (Program.veiledRec Tryz.pinned.checked.prog ·)))=true:=by kernel_rfl
theorem jn32:(Rows.imageTakesUptoRow.veiledFits Tryz.pinned.checked.prog Tryz.f3.params.toList (Tryz.f3.params.toList ++ (Rows.OpenSpec.upto Rows.imageTakesSpec).bare.plain.varTypes Tryz.pinned.checked.prog ++ Tryz.f3.resultTypes.toList))=true:=by kernel_rfl
theorem closed:joinedFacts Tryz.pinned.checked.prog 3 Tryz.f3 (Rows.OpenSpec.upto Rows.imageTakesSpec).bare Rows.imageTakesUptoRow=true:=by
  unfold joinedFacts
  simp only [Bool.and_eq_true]
  exact ⟨⟨⟨⟨⟨⟨⟨⟨⟨⟨⟨⟨⟨⟨⟨⟨⟨⟨⟨⟨⟨⟨⟨⟨⟨⟨⟨⟨⟨⟨⟨jn1,jn2⟩,jn3⟩,jn4⟩,jn5⟩,jn6⟩,jn7⟩,jn8⟩,jn9⟩,jn10⟩,jn11⟩,jn12⟩,jn13⟩,jn14⟩,jn15⟩,jn16⟩,jn17⟩,jn18⟩,jn19⟩,jn20⟩,jn21⟩,jn22⟩,jn23⟩,jn24⟩,jn25⟩,jn26⟩,jn27⟩,jn28⟩,jn29⟩,jn30⟩,jn31⟩,jn32⟩
end Go.Proofs.YtcefmpnijjcekaaGreatDoor.imageTakes
