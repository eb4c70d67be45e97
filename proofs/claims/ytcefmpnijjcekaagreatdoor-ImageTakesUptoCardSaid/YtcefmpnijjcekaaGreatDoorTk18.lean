/- Proved here: what the document's own Encode (drydockref09) answers of any small node. The conditions stand at each theorem. Proved here: what the document's own GetExtent (drydockref09) answers; and what its Decode begins with: the variable that is read into. The conditions stand at each theorem. -/
import Derived.Test.YtcefmpnijjcekaaGreatDoorTk17
import Derived.Test.YtcefmpnijjcekaaGreatDoorTk6
import Derived.Test.YtcefmpnijjcekaaGreatDoorTk1
import Derived.Deep.RegionHeld
import Derived.Test.YtcefmpnijjcekaaGreatDoorTk7
import Derived.Deep.Cut
import Derived.Deep.RegionLaw
set_option linter.unusedVariables false
set_option linter.unusedSimpArgs false
namespace Go.Proofs.YtcefmpnijjcekaaGreatDoor
open Go.RowKit
def sixObj (l:List Int):Obj:=.cells (l.map (Value.int .i64)).toArray 3
theorem six_obj {w:World} {g:Nat} {l:List Int} (h:w.heap[g]?=some (sixObj l)) {j:Nat} {x:Int} (hj:l[j]?=some x):w.cell? ⟨g,j,none⟩=some (.int .i64 x):=by
  have hc:w.cell? ⟨g,j,none⟩=(l.map (Value.int .i64)).toArray[j]?:=by
    unfold World.cell?
    rw [h]
    rfl
  rw [hc]
  simp [hj]
theorem sixObj_ty (l:List Int):∀ cs mk,sixObj l≠.cells cs 5 mk:=by
  intro cs mk h
  unfold sixObj at h
  injection h with _ h2 _
  exact absurd h2 (by decide)
theorem block_kept {w w':World} {g:Nat} {o:Obj} (h:w.heap[g]?=some o) (hb:Below w.heap.size w w'):w'.heap[g]?=some o:=by
  have hlt:g < w.heap.size:=by
    rcases Nat.lt_or_ge g w.heap.size with h' | h'
    · exact h'
    · rw [Array.getElem?_eq_none h'] at h;cases h
  rw [hb.block g hlt];exact h
set_option maxHeartbeats 800000 in
theorem all09g_any (k f l z d0 d1 d2 d3 s t:Int) (ao:Option Addr) (m cap:Nat) (c:Int) (w:World):Calls Tryz.prog 95 #[.agg #[.int .i64 k,.int .i64 f,.int .i64 l,.int .i64 z,.int .i64 d0,.int .i64 d1,.int .i64 d2,.int .i64 d3,.int .i64 s,.int .i64 t,.slice ao m cap,.int .i64 c]] w fun e w'=>∃ g,e=.returned (.slice (some ⟨g,0,none⟩) (6:Nat) (6:Nat))∧w'.heap[g]?=some (sixObj [d0,d1,d2,d3,s,t])∧Below w.heap.size w w':=by
  have HB:Hid (Below w.heap.size w (w.alloc (.cells #[.int .i64 k,.int .i64 f,.int .i64 l,.int .i64 z,.int .i64 d0,.int .i64 d1,.int .i64 d2,.int .i64 d3,.int .i64 s,.int .i64 t,.slice ao m cap,.int .i64 c] 68))):=Lib.hid ((Below.refl _ _).alloc (Nat.le_refl _) _)
  go_enter Tryz.func95,Tryz.ntmps95
  go_wp2_with fail
  go_ret
  refine ⟨w.heap.size+1,rfl,?_,HB.out.alloc HB.out.size _⟩
  rw [← World.size_alloc w (.cells #[.int .i64 k,.int .i64 f,.int .i64 l,.int .i64 z,.int .i64 d0,.int .i64 d1,.int .i64 d2,.int .i64 d3,.int .i64 s,.int .i64 t,.slice ao m cap,.int .i64 c] 68),heap_alloc_new]
  rfl
def Zeroed (w0:World) (base:Nat) (L:List Int) (j:Nat) (v:Value) (wr:World):Prop:=wr.ownsRow base 5 1 v j ((L ++ List.replicate (j - L.length) 0).map (Value.int .u8))∧Below base w0 wr
theorem zeroed_step {w0 wr w1:World} {base j:Nat} {L:List Int} {v v1:Value} (h:Zeroed w0 base L j v wr) (hL:L.length≤j) (ho:w1.ownsRow base 5 1 v1 (j+1) ((L ++ List.replicate (j - L.length) 0).map (Value.int .u8) ++ [0].map (Value.int .u8))) (hb:Below base (wr.alloc (.cells #[.int .u8 0] 5)) w1) (hs:base≤wr.heap.size):Zeroed w0 base L (j+1) v1 w1:=by
  refine ⟨?_,(h.2.alloc hs _).trans hb⟩
  rw [← List.map_append,List.append_assoc] at ho
  rw [show j+1 - L.length=(j - L.length)+1 by omega,List.replicate_succ']
  exact ho
theorem node_bytes (n:PNode) (x:List PX):∀ y ∈ nodeH n ++ exB x,0≤y∧y≤255:=by
  intro y hy
  rcases List.mem_append.1 hy with h | h
  · unfold nodeH at h
    simp only [List.mem_append] at h
    rcases h with ((h | h) | h) | h
    all_goals exact leB_bytes _ _ y h
  · unfold exB at h
    obtain ⟨u,_,h⟩:=List.mem_flatMap.1 h
    simp only [List.mem_append] at h
    rcases h with (h | h) | h
    all_goals exact leB_bytes _ _ y h
theorem node_bytesP (n:PNode):∀ y ∈ nodeH n ++ nodeP n,0≤y∧y≤255:=by
  intro y hy
  rcases List.mem_append.1 hy with h | h
  · unfold nodeH at h
    simp only [List.mem_append] at h
    rcases h with ((h | h) | h) | h
    all_goals exact leB_bytes _ _ y h
  · unfold nodeP at h
    simp only [List.mem_append] at h
    rcases h with ((((h | h) | h) | h) | h) | h
    all_goals exact leB_bytes _ _ y h
def putsB (l:List Int):List Int:=l.flatMap fun p=>leB p 2
theorem puts_node (k f l z d0 d1 d2 d3 s t:Int) (x:List PX) (c:Int):putsB ([d0,d1,d2,d3,s,t].take 6)=nodeP ⟨k,f,l,z,d0,d1,d2,d3,s,t,x,c⟩:=by
  show leB d0 2 ++ (leB d1 2 ++ (leB d2 2 ++ (leB d3 2 ++ (leB s 2 ++ (leB t 2 ++ [])))))=leB d0 2 ++ leB d1 2 ++ leB d2 2 ++ leB d3 2 ++ leB s 2 ++ leB t 2
  simp only [List.append_assoc,List.append_nil]
set_option maxRecDepth 100000 in
set_option maxHeartbeats 12800000 in
theorem renc_any (n:PNode) {ao:Option Addr} {m cap:Nat} (w:World) (hn:n.small) (hX:XIs w ao m n.x) :
    Calls Tryz.prog 55 #[n.val (.slice ao m cap)] w (Handed w.heap.size w (nodeOut n) (nodeErr n)):=by
  have CS:=Lib.hid (fun (W:World) (hW:Below w.heap.size w W)=>Sound09_any (cap:=cap) n W hn (hX.later hW))
  have hm:=hX.2.1
  have HXL:=Lib.hid hX.1
  have HX:=Lib.hid hX
  have HSM:=Lib.hid hn.2.2.2.2.2.2.2.2.2.2.2
  have HPU:Hid (∀ y ∈ n.ptrs,u16 y):=Lib.hid (fun y hy=>by
    obtain ⟨_,_,_,_,h4,h5,h6,h7,h8,h9,_⟩:=hn
    unfold PNode.ptrs at hy
    simp only [List.mem_cons,List.mem_nil_iff,or_false] at hy
    rcases hy with rfl | rfl | rfl | rfl | rfl | rfl <;> assumption)
  have HKn:Hid (0≤n.k∧n.k < 4294967296):=Lib.hid (by have:=hn.1;unfold u16 at this;omega)
  have HFn:Hid (0≤n.f∧n.f < 4294967296):=Lib.hid (by have:=hn.2.1;unfold u16 at this;omega)
  have HLn:Hid (0≤n.l∧n.l < 4294967296):=Lib.hid (by have:=hn.2.2.1;unfold u16 at this;omega)
  have HZn:Hid (0≤n.z∧n.z < 4294967296):=Lib.hid (by have:=hn.2.2.2.1;unfold u16 at this;omega)
  have HCn:Hid (0≤n.c∧n.c < 4294967296):=Lib.hid (by have:=hn.2.2.2.2.2.2.2.2.2.2.1;unfold u16 at this;omega)
  clear hX hn
  cases hs:n.sound with
  | false=>
    have HO:Hid (nodeOut n=[]∧nodeErr n=2):=Lib.hid (by unfold nodeOut nodeErr;rw [hs];exact ⟨rfl,rfl⟩)
    rw [hs] at CS
    generalize nodeOut n=O at *
    generalize nodeErr n=E at *
    clear hs
    obtain ⟨k,f,l,z,d0,d1,d2,d3,s,t,x,c⟩:=n
    unfold PNode.val at CS ⊢
    simp only at CS ⊢
    have W1:Hid (Below w.heap.size w (w.alloc (.cells #[.int .i64 k,.int .i64 f,.int .i64 l,.int .i64 z,.int .i64 d0,.int .i64 d1,.int .i64 d2,.int .i64 d3,.int .i64 s,.int .i64 t,.slice ao m cap,.int .i64 c] 68))):=Lib.hid ((Below.refl _ _).alloc (Nat.le_refl _) _)
    go_enter Tryz.func55,Tryz.ntmps55
    go_wp2_with (go_at_call 93;refine (CS.out _ W1.out).mono ?_;rintro e w2 ⟨rfl,hb2⟩;have B2:=Lib.hid (W1.out.trans (hb2.mono W1.out.size));clear hb2)
    go_ret2
    exact ⟨.slice none 0 0,by rw [HO.out.2];rfl,by rw [HO.out.1];exact Fresh.nil _ _,B2.out⟩
  | true=>
    have HO:Hid (nodeOut n=node32 n∧nodeErr n=0):=Lib.hid (by unfold nodeOut nodeErr;rw [hs];exact ⟨rfl,rfl⟩)
    rw [hs] at CS
    generalize nodeOut n=O at *
    generalize nodeErr n=E at *
    clear hs
    obtain ⟨k,f,l,z,d0,d1,d2,d3,s,t,x,c⟩:=n
    unfold PNode.val at CS ⊢
    unfold PNode.ptrs at HPU
    simp only at CS HXL HX HSM HPU HKn HFn HLn HZn HCn ⊢
    by_cases hf2:f=2
    · subst hf2
      have W1:Hid (Below w.heap.size w (w.alloc (.cells #[.int .i64 k,.int .i64 2,.int .i64 l,.int .i64 z,.int .i64 d0,.int .i64 d1,.int .i64 d2,.int .i64 d3,.int .i64 s,.int .i64 t,.slice ao m cap,.int .i64 c] 68))):=Lib.hid ((Below.refl _ _).alloc (Nat.le_refl _) _)
      have HC:Hid (∀ j v,(#[.int .i64 k,.int .i64 2,.int .i64 l,.int .i64 z,.int .i64 d0,.int .i64 d1,.int .i64 d2,.int .i64 d3,.int .i64 s,.int .i64 t,.slice ao m cap,.int .i64 c]:Array Value)[j]?=some v→(w.alloc (.cells #[.int .i64 k,.int .i64 2,.int .i64 l,.int .i64 z,.int .i64 d0,.int .i64 d1,.int .i64 d2,.int .i64 d3,.int .i64 s,.int .i64 t,.slice ao m cap,.int .i64 c] 68)).cell? ⟨w.heap.size,j,none⟩=some v):=Lib.hid (fun j v h=>by rw [World.cell?_alloc_new];exact h)
      have cS0:=CS.out _ W1.out
      obtain ⟨WB,hWB⟩:∃ WB,(w.alloc (.cells #[.int .i64 k,.int .i64 2,.int .i64 l,.int .i64 z,.int .i64 d0,.int .i64 d1,.int .i64 d2,.int .i64 d3,.int .i64 s,.int .i64 t,.slice ao m cap,.int .i64 c] 68))=WB:=⟨_,rfl⟩
      rw [hWB] at W1 HC cS0
      have HWB:=Lib.hid hWB
      clear hWB CS
      go_enter Tryz.func55,Tryz.ntmps55
      go_wp2_with (first
          | (go_at_call 93;rw [HWB.out];refine cS0.mono ?_;rintro e w2 ⟨rfl,hb2⟩;have B2:=Lib.hid hb2;have S2:=Lib.hid hb2.size;have O2:Hid (w2.ownsRow WB.heap.size 5 1 (.slice none 0 0) 0 (([]:List Int).map (Value.int .u8))):=Lib.hid (World.ownsRow_nil w2 WB.heap.size 5 1);have q2_0:=cell_later hb2 (HC.out 0 _ rfl);have q2_1:=cell_later hb2 (HC.out 1 _ rfl);have q2_2:=cell_later hb2 (HC.out 2 _ rfl);have q2_3:=cell_later hb2 (HC.out 3 _ rfl);have q2_4:=cell_later hb2 (HC.out 4 _ rfl);have q2_5:=cell_later hb2 (HC.out 5 _ rfl);have q2_6:=cell_later hb2 (HC.out 6 _ rfl);have q2_7:=cell_later hb2 (HC.out 7 _ rfl);have q2_8:=cell_later hb2 (HC.out 8 _ rfl);have q2_9:=cell_later hb2 (HC.out 9 _ rfl);have q2_10:=cell_later hb2 (HC.out 10 _ rfl);have q2_11:=cell_later hb2 (HC.out 11 _ rfl);clear hb2)
          | (go_at_call 40;refine (put09 2 rfl O5.out S5.out HZn.out (by decide) (by decide)).mono ?_;rintro e w6 ⟨v6,rfl,h5,b5⟩;have B6:=Lib.hid (B5.out.trans b5);have O6:=Lib.hid h5;have S6:=Lib.hid (Nat.le_trans S5.out b5.size);have q6_0:=cell_later B6.out (HC.out 0 _ rfl);have q6_1:=cell_later B6.out (HC.out 1 _ rfl);have q6_2:=cell_later B6.out (HC.out 2 _ rfl);have q6_3:=cell_later B6.out (HC.out 3 _ rfl);have q6_4:=cell_later B6.out (HC.out 4 _ rfl);have q6_5:=cell_later B6.out (HC.out 5 _ rfl);have q6_6:=cell_later B6.out (HC.out 6 _ rfl);have q6_7:=cell_later B6.out (HC.out 7 _ rfl);have q6_8:=cell_later B6.out (HC.out 8 _ rfl);have q6_9:=cell_later B6.out (HC.out 9 _ rfl);have q6_10:=cell_later B6.out (HC.out 10 _ rfl);have q6_11:=cell_later B6.out (HC.out 11 _ rfl);clear h5 b5)
          | (go_at_call 40;refine (put09 2 rfl O4.out S4.out HLn.out (by decide) (by decide)).mono ?_;rintro e w5 ⟨v5,rfl,h5,b5⟩;have B5:=Lib.hid (B4.out.trans b5);have O5:=Lib.hid h5;have S5:=Lib.hid (Nat.le_trans S4.out b5.size);have q5_0:=cell_later B5.out (HC.out 0 _ rfl);have q5_1:=cell_later B5.out (HC.out 1 _ rfl);have q5_2:=cell_later B5.out (HC.out 2 _ rfl);have q5_3:=cell_later B5.out (HC.out 3 _ rfl);have q5_4:=cell_later B5.out (HC.out 4 _ rfl);have q5_5:=cell_later B5.out (HC.out 5 _ rfl);have q5_6:=cell_later B5.out (HC.out 6 _ rfl);have q5_7:=cell_later B5.out (HC.out 7 _ rfl);have q5_8:=cell_later B5.out (HC.out 8 _ rfl);have q5_9:=cell_later B5.out (HC.out 9 _ rfl);have q5_10:=cell_later B5.out (HC.out 10 _ rfl);have q5_11:=cell_later B5.out (HC.out 11 _ rfl);clear h5 b5)
          | (go_at_call 40;refine (put09 1 rfl O3.out S3.out HFn.out (by decide) (by decide)).mono ?_;rintro e w4 ⟨v4,rfl,h5,b5⟩;have B4:=Lib.hid (B3.out.trans b5);have O4:=Lib.hid h5;have S4:=Lib.hid (Nat.le_trans S3.out b5.size);have q4_0:=cell_later B4.out (HC.out 0 _ rfl);have q4_1:=cell_later B4.out (HC.out 1 _ rfl);have q4_2:=cell_later B4.out (HC.out 2 _ rfl);have q4_3:=cell_later B4.out (HC.out 3 _ rfl);have q4_4:=cell_later B4.out (HC.out 4 _ rfl);have q4_5:=cell_later B4.out (HC.out 5 _ rfl);have q4_6:=cell_later B4.out (HC.out 6 _ rfl);have q4_7:=cell_later B4.out (HC.out 7 _ rfl);have q4_8:=cell_later B4.out (HC.out 8 _ rfl);have q4_9:=cell_later B4.out (HC.out 9 _ rfl);have q4_10:=cell_later B4.out (HC.out 10 _ rfl);have q4_11:=cell_later B4.out (HC.out 11 _ rfl);clear h5 b5)
          | (go_at_call 40;refine (put09 1 rfl O2.out S2.out HKn.out (by decide) (by decide)).mono ?_;rintro e w3 ⟨v3,rfl,h5,b5⟩;have B3:=Lib.hid (B2.out.trans b5);have O3:=Lib.hid h5;have S3:=Lib.hid (Nat.le_trans S2.out b5.size);have q3_0:=cell_later B3.out (HC.out 0 _ rfl);have q3_1:=cell_later B3.out (HC.out 1 _ rfl);have q3_2:=cell_later B3.out (HC.out 2 _ rfl);have q3_3:=cell_later B3.out (HC.out 3 _ rfl);have q3_4:=cell_later B3.out (HC.out 4 _ rfl);have q3_5:=cell_later B3.out (HC.out 5 _ rfl);have q3_6:=cell_later B3.out (HC.out 6 _ rfl);have q3_7:=cell_later B3.out (HC.out 7 _ rfl);have q3_8:=cell_later B3.out (HC.out 8 _ rfl);have q3_9:=cell_later B3.out (HC.out 9 _ rfl);have q3_10:=cell_later B3.out (HC.out 10 _ rfl);have q3_11:=cell_later B3.out (HC.out 11 _ rfl);clear h5 b5))
      have HBASE:=Lib.hid (Nat.le_refl WB.heap.size)
      have HHH:Hid (w6.ownsRow WB.heap.size 5 1 v6 6 ((nodeH ⟨k,2,l,z,d0,d1,d2,d3,s,t,x,c⟩).map (Value.int .u8))):=Lib.hid O6.out
      go_loopw [4,5] (fun vv iv wr=>∃ i:Nat,iv=.int .i64 (i:Int)∧i≤m∧Hid (wr.ownsRow WB.heap.size 5 1 vv (6+4 * i) ((nodeH ⟨k,2,l,z,d0,d1,d2,d3,s,t,x,c⟩ ++ exB (x.take i)).map (Value.int .u8)))∧Hid (Below WB.heap.size WB wr)) (fun _ iv _=>m - (intOf iv).toNat)
      case atStart=>exact ⟨0,rfl,Nat.zero_le _,Lib.hid (by rw [show exB (x.take 0)=[] from rfl,List.append_nil];exact HHH.out),B6⟩
      case round=>
        obtain ⟨i,rfl,hi,HR,HB⟩:=hrel
        have q10:=cell_later HB.out (HC.out 10 _ rfl)
        have q11:=cell_later HB.out (HC.out 11 _ rfl)
        by_cases hlt:i < m
        · obtain ⟨b,off,y,p,q,rfl,hy,hmem,c1,c2,f1,f2⟩:=HX.out.at hlt
          have d1':=cell_later (W1.out.trans (HB.out.mono W1.out.size)) c1
          have d2':=cell_later (W1.out.trans (HB.out.mono W1.out.size)) c2
          have i1:(i:Int) < (m:Int):=by omega
          have cP:=PutExtent_any y p q WB.heap.size _ (6+4 * i) _ wr HR.out HB.out.size (by omega) (HSM.out y hmem) f1 f2
          have HT:Hid (exB (x.take (i+1))=exB (x.take i) ++ (leB y.a 1 ++ leB y.f 2 ++ leB y.c 1)):=Lib.hid (by
            rw [take_at hy]
            unfold exB
            rw [List.flatMap_append]
            simp)
          have CP:=Lib.hid cP
          clear hy hmem c1 c2 f1 f2 cP
          go_wp2_with (go_at_call 94;refine CP.out.mono ?_;rintro e w7 ⟨v7,rfl,h7,b7⟩;have O7:=Lib.hid h7;have B7:=Lib.hid (HB.out.trans b7);clear h7 b7)
          go_roundw
          case rel=>exact ⟨i+1,by go_num,by omega,Lib.hid (by rw [HT.out,← List.append_assoc,show 6+4 * (i+1)=6+4 * i+4 by omega];exact O7.out),B7⟩
          case measure=>simp [intOf];omega
        · have hin:i=m:=by omega
          subst hin
          have HTT:Hid (x.take i=x):=Lib.hid (by rw [← HXL.out];exact List.take_length)
          rw [HTT.out] at HR
          have hAl:(nodeH ⟨k,2,l,z,d0,d1,d2,d3,s,t,x,c⟩ ++ exB x).length=6+4 * i:=by rw [List.length_append,nodeH_length,exB_length,HXL.out];omega
          have hAb:∀ y ∈ nodeH ⟨k,2,l,z,d0,d1,d2,d3,s,t,x,c⟩ ++ exB x,0≤y∧y≤255:=node_bytes _ _
          have hP18:pad 18 (nodeH ⟨k,2,l,z,d0,d1,d2,d3,s,t,x,c⟩ ++ exB x)=(nodeH ⟨k,2,l,z,d0,d1,d2,d3,s,t,x,c⟩ ++ exB x) ++ List.replicate (18 - (nodeH ⟨k,2,l,z,d0,d1,d2,d3,s,t,x,c⟩ ++ exB x).length) 0:=rfl
          have hN28:node28 ⟨k,2,l,z,d0,d1,d2,d3,s,t,x,c⟩=pad 28 (pad 18 (nodeH ⟨k,2,l,z,d0,d1,d2,d3,s,t,x,c⟩ ++ exB x) ++ leB c 2):=by unfold node28;rw [if_pos rfl]
          rw [hP18] at hN28
          obtain ⟨A,hA⟩:∃ A,nodeH ⟨k,2,l,z,d0,d1,d2,d3,s,t,x,c⟩ ++ exB x=A:=⟨_,rfl⟩
          rw [hA] at HR hAl hAb hN28
          have HA6:=Lib.hid hAl
          have HAB:=Lib.hid hAb
          have HN28:=Lib.hid hN28
          have hi3:i≤3:=hm
          clear hA hAl hAb hN28 hP18
          go_wp2_with fail
          go_loopw [4] (fun vv wr=>∃ j:Nat,A.length≤j∧j≤18∧(∃ ao cap,vv=.slice ao j cap)∧Hid (Zeroed WB WB.heap.size A j vv wr)) (fun vv _=>18 - lenOf9 vv)
          case atStart=>exact ⟨6+4 * i,by rw [HA6.out];exact Nat.le_refl _,by omega,owns_len HR.out,Lib.hid ⟨by rw [HA6.out,Nat.sub_self,List.replicate_zero,List.append_nil];exact HR.out,HB.out⟩⟩
          case round=>
            obtain ⟨j,hj1,hj2,⟨bo,bc,rfl⟩,HR⟩:=hrel
            have HS:Hid (WB.heap.size≤wr.heap.size):=Lib.hid (Nat.le_trans HBASE.out HR.out.2.size)
            by_cases hlt:j < 18
            · have j1:(j:Int) < 18:=by omega
              go_wp2_with (at_builtin;refine wp_append_bytes rfl (.tmp 46) (.tmp 47) rfl WB.heap.size j _ _ rfl (HR.out.1.alloc _) (some ⟨wr.heap.size,0,none⟩) 1 1 [0] rfl (one_bts wr 0 (by decide)) (by simp) (by omega) (by have:=HS.out;simp;omega) ?_;intro v1 w1 hown1 hb1;have HZ1:=Lib.hid (zeroed_step HR.out hj1 hown1 hb1 HS.out);obtain ⟨b1,c1,rfl⟩:=owns_len hown1;clear hown1 hb1)
              go_roundw
              case rel=>first | exact ⟨j+1,by omega,by omega,⟨b1,c1,rfl⟩,HZ1⟩ | (refine ⟨.slice b1 (j+1) c1,_,_,_,_,_,_,⟨j+1,by omega,by omega,⟨b1,c1,rfl⟩,HZ1⟩,?_⟩;rfl)
              case measure=>simp [lenOf9];omega
            · have hjt:j=18:=by omega
              subst hjt
              have HO18:=HR
              have q11':=cell_later HR.out.2 (HC.out 11 _ rfl)
              have hL18:(A ++ List.replicate (18 - A.length) 0).length=18:=by rw [List.length_append,List.length_replicate];omega
              have hLB:∀ y ∈ A ++ List.replicate (18 - A.length) 0,0≤y∧y≤255:=fun y hy=>by
                rcases List.mem_append.1 hy with h | h
                · exact HAB.out y h
                · rw [List.eq_of_mem_replicate h];decide
              have hPD:=HN28.out
              have HOWN18:=Lib.hid HR.out.1
              have HB18:=Lib.hid HR.out.2
              generalize A ++ List.replicate (18 - A.length) 0=A18 at *
              have hl20:(A18 ++ leB c 2).length=20:=by rw [List.length_append,hL18,leB_length]
              have hlb20:∀ y ∈ A18 ++ leB c 2,0≤y∧y≤255:=fun y hy=>by
                rcases List.mem_append.1 hy with h | h
                · exact hLB y h
                · exact leB_bytes _ _ y h
              have hpd:(A18 ++ leB c 2) ++ List.replicate (28 - (A18 ++ leB c 2).length) 0=node28 ⟨k,2,l,z,d0,d1,d2,d3,s,t,x,c⟩:=hPD.symm
              clear hLB hPD
              go_wp2_with (go_at_call 40;refine (put09 2 rfl HOWN18.out HS.out HCn.out (by decide) (by decide)).mono ?_;rintro e w9 ⟨v9,rfl,h9,b9⟩;have O9:=Lib.hid h9;have B9:=Lib.hid (HB18.out.trans b9);obtain ⟨o9,c9,rfl⟩:=owns_len h9;clear h9 b9)
              obtain ⟨L,hL⟩:∃ L,A18 ++ leB c 2=L:=⟨_,rfl⟩
              rw [hL] at O9 hl20 hlb20 hpd
              have HLB:=Lib.hid hlb20
              have HPD:=Lib.hid hpd
              have HL20:=Lib.hid hl20
              clear hL hlb20 hpd hL18
              go_loopw [4] (fun vv wr=>∃ j:Nat,L.length≤j∧j≤28∧(∃ ao cap,vv=.slice ao j cap)∧Hid (Zeroed WB WB.heap.size L j vv wr)) (fun vv _=>28 - lenOf9 vv)
              case atStart=>exact ⟨20,by rw [HL20.out];exact Nat.le_refl _,by decide,⟨o9,c9,rfl⟩,Lib.hid ⟨by rw [HL20.out,Nat.sub_self,List.replicate_zero,List.append_nil];exact O9.out,B9.out⟩⟩
              case round=>
                obtain ⟨j,hj1,hj2,⟨bo,bc,rfl⟩,HR⟩:=hrel
                have HS:Hid (WB.heap.size≤wr.heap.size):=Lib.hid (Nat.le_trans HBASE.out HR.out.2.size)
                by_cases hlt:j < 28
                · have j1:(j:Int) < 28:=by omega
                  go_wp2_with (at_builtin;refine wp_append_bytes rfl (.tmp 68) (.tmp 69) rfl WB.heap.size j _ _ rfl (HR.out.1.alloc _) (some ⟨wr.heap.size,0,none⟩) 1 1 [0] rfl (one_bts wr 0 (by decide)) (by simp) (by omega) (by have:=HS.out;simp;omega) ?_;intro v1 w1 hown1 hb1;have HZ1:=Lib.hid (zeroed_step HR.out hj1 hown1 hb1 HS.out);obtain ⟨b1,c1,rfl⟩:=owns_len hown1;clear hown1 hb1)
                  go_roundw
                  case rel=>first | exact ⟨j+1,by omega,by omega,⟨b1,c1,rfl⟩,HZ1⟩ | (refine ⟨.slice b1 (j+1) c1,_,_,_,_,_,_,⟨j+1,by omega,by omega,⟨b1,c1,rfl⟩,HZ1⟩,?_⟩;rfl)
                  case measure=>simp [lenOf9];omega
                · have hjt:j=28:=by omega
                  subst hjt
                  have hbt:∀ y ∈ L ++ List.replicate (28 - L.length) 0,0≤y∧y≤255:=fun y hy=>by
                    rcases List.mem_append.1 hy with h | h
                    · exact HLB.out y h
                    · rw [List.eq_of_mem_replicate h];decide
                  have hP:Hid (L ++ List.replicate (28 - L.length) 0=node28 ⟨k,2,l,z,d0,d1,d2,d3,s,t,x,c⟩):=Lib.hid (HPD.out)
                  rw [hP.out] at hbt
                  have hown:=HR.out.1
                  rw [hP.out] at hown
                  obtain ⟨bo',bc',hv',hB'⟩:=owns_bts hown hbt (by decide)
                  cases hv'
                  have cS:=refSum_any bo 28 bc (node28 ⟨k,2,l,z,d0,d1,d2,d3,s,t,x,c⟩) wr hB'
                  have hsb:=sumS_bounds (node28 ⟨k,2,l,z,d0,d1,d2,d3,s,t,x,c⟩)
                  have HOW:=Lib.hid hown
                  have HBF:=Lib.hid HR.out.2
                  have HNB:=Lib.hid hbt
                  have HN32:Hid (node32 ⟨k,2,l,z,d0,d1,d2,d3,s,t,x,c⟩=node28 ⟨k,2,l,z,d0,d1,d2,d3,s,t,x,c⟩ ++ leB (sumS (node28 ⟨k,2,l,z,d0,d1,d2,d3,s,t,x,c⟩)) 4):=Lib.hid rfl
                  generalize node28 ⟨k,2,l,z,d0,d1,d2,d3,s,t,x,c⟩=M at *
                  generalize sumS M=SS at *
                  have hw:IntKind.i64.wrap SS=SS:=by rw [IntKind.wrap_i64];omega
                  clear hbt hown hB'
                  go_wp2_with (first
                    | (go_at_call 84;refine cS.mono ?_;rintro e w7 ⟨rfl,rfl⟩)
                    | (go_at_call 40;refine (put09 4 rfl HOW.out HS.out (by omega) (by decide) (by decide)).mono ?_;rintro e w8 ⟨v8,rfl,h5,b5⟩;have B8:=Lib.hid (HBF.out.trans b5);have O8:=Lib.hid h5;clear h5 b5))
                  go_ret2
                  exact ⟨v8,by rw [HO.out.2];rfl,by rw [HO.out.1,HN32.out];exact (fresh_of_owns O8.out (fun y hy=>by
                    rcases List.mem_append.1 hy with h | h
                    · exact HNB.out y h
                    · exact leB_bytes _ _ y h) (by decide)).mono W1.out.size,W1.out.trans (B8.out.mono W1.out.size)⟩
    · have e1:(f == 2)=false:=by simp [hf2]
      have e2:decide (f=2)=false:=by simp [hf2]
      have W1:Hid (Below w.heap.size w (w.alloc (.cells #[.int .i64 k,.int .i64 f,.int .i64 l,.int .i64 z,.int .i64 d0,.int .i64 d1,.int .i64 d2,.int .i64 d3,.int .i64 s,.int .i64 t,.slice ao m cap,.int .i64 c] 68))):=Lib.hid ((Below.refl _ _).alloc (Nat.le_refl _) _)
      have HC:Hid (∀ j v,(#[.int .i64 k,.int .i64 f,.int .i64 l,.int .i64 z,.int .i64 d0,.int .i64 d1,.int .i64 d2,.int .i64 d3,.int .i64 s,.int .i64 t,.slice ao m cap,.int .i64 c]:Array Value)[j]?=some v→(w.alloc (.cells #[.int .i64 k,.int .i64 f,.int .i64 l,.int .i64 z,.int .i64 d0,.int .i64 d1,.int .i64 d2,.int .i64 d3,.int .i64 s,.int .i64 t,.slice ao m cap,.int .i64 c] 68)).cell? ⟨w.heap.size,j,none⟩=some v):=Lib.hid (fun j v h=>by rw [World.cell?_alloc_new];exact h)
      have cS0:=CS.out _ W1.out
      obtain ⟨WB,hWB⟩:∃ WB,(w.alloc (.cells #[.int .i64 k,.int .i64 f,.int .i64 l,.int .i64 z,.int .i64 d0,.int .i64 d1,.int .i64 d2,.int .i64 d3,.int .i64 s,.int .i64 t,.slice ao m cap,.int .i64 c] 68))=WB:=⟨_,rfl⟩
      rw [hWB] at W1 HC cS0
      have HWB:=Lib.hid hWB
      clear hWB CS
      go_enter Tryz.func55,Tryz.ntmps55
      go_wp2_with (first
          | (go_at_call 93;rw [HWB.out];refine cS0.mono ?_;rintro e w2 ⟨rfl,hb2⟩;have B2:=Lib.hid hb2;have S2:=Lib.hid hb2.size;have O2:Hid (w2.ownsRow WB.heap.size 5 1 (.slice none 0 0) 0 (([]:List Int).map (Value.int .u8))):=Lib.hid (World.ownsRow_nil w2 WB.heap.size 5 1);have q2_0:=cell_later hb2 (HC.out 0 _ rfl);have q2_1:=cell_later hb2 (HC.out 1 _ rfl);have q2_2:=cell_later hb2 (HC.out 2 _ rfl);have q2_3:=cell_later hb2 (HC.out 3 _ rfl);have q2_4:=cell_later hb2 (HC.out 4 _ rfl);have q2_5:=cell_later hb2 (HC.out 5 _ rfl);have q2_6:=cell_later hb2 (HC.out 6 _ rfl);have q2_7:=cell_later hb2 (HC.out 7 _ rfl);have q2_8:=cell_later hb2 (HC.out 8 _ rfl);have q2_9:=cell_later hb2 (HC.out 9 _ rfl);have q2_10:=cell_later hb2 (HC.out 10 _ rfl);have q2_11:=cell_later hb2 (HC.out 11 _ rfl);clear hb2)
          | (go_at_call 40;refine (put09 2 rfl O5.out S5.out HZn.out (by decide) (by decide)).mono ?_;rintro e w6 ⟨v6,rfl,h5,b5⟩;have B6:=Lib.hid (B5.out.trans b5);have O6:=Lib.hid h5;have S6:=Lib.hid (Nat.le_trans S5.out b5.size);have q6_0:=cell_later B6.out (HC.out 0 _ rfl);have q6_1:=cell_later B6.out (HC.out 1 _ rfl);have q6_2:=cell_later B6.out (HC.out 2 _ rfl);have q6_3:=cell_later B6.out (HC.out 3 _ rfl);have q6_4:=cell_later B6.out (HC.out 4 _ rfl);have q6_5:=cell_later B6.out (HC.out 5 _ rfl);have q6_6:=cell_later B6.out (HC.out 6 _ rfl);have q6_7:=cell_later B6.out (HC.out 7 _ rfl);have q6_8:=cell_later B6.out (HC.out 8 _ rfl);have q6_9:=cell_later B6.out (HC.out 9 _ rfl);have q6_10:=cell_later B6.out (HC.out 10 _ rfl);have q6_11:=cell_later B6.out (HC.out 11 _ rfl);clear h5 b5)
          | (go_at_call 40;refine (put09 2 rfl O4.out S4.out HLn.out (by decide) (by decide)).mono ?_;rintro e w5 ⟨v5,rfl,h5,b5⟩;have B5:=Lib.hid (B4.out.trans b5);have O5:=Lib.hid h5;have S5:=Lib.hid (Nat.le_trans S4.out b5.size);have q5_0:=cell_later B5.out (HC.out 0 _ rfl);have q5_1:=cell_later B5.out (HC.out 1 _ rfl);have q5_2:=cell_later B5.out (HC.out 2 _ rfl);have q5_3:=cell_later B5.out (HC.out 3 _ rfl);have q5_4:=cell_later B5.out (HC.out 4 _ rfl);have q5_5:=cell_later B5.out (HC.out 5 _ rfl);have q5_6:=cell_later B5.out (HC.out 6 _ rfl);have q5_7:=cell_later B5.out (HC.out 7 _ rfl);have q5_8:=cell_later B5.out (HC.out 8 _ rfl);have q5_9:=cell_later B5.out (HC.out 9 _ rfl);have q5_10:=cell_later B5.out (HC.out 10 _ rfl);have q5_11:=cell_later B5.out (HC.out 11 _ rfl);clear h5 b5)
          | (go_at_call 40;refine (put09 1 rfl O3.out S3.out HFn.out (by decide) (by decide)).mono ?_;rintro e w4 ⟨v4,rfl,h5,b5⟩;have B4:=Lib.hid (B3.out.trans b5);have O4:=Lib.hid h5;have S4:=Lib.hid (Nat.le_trans S3.out b5.size);have q4_0:=cell_later B4.out (HC.out 0 _ rfl);have q4_1:=cell_later B4.out (HC.out 1 _ rfl);have q4_2:=cell_later B4.out (HC.out 2 _ rfl);have q4_3:=cell_later B4.out (HC.out 3 _ rfl);have q4_4:=cell_later B4.out (HC.out 4 _ rfl);have q4_5:=cell_later B4.out (HC.out 5 _ rfl);have q4_6:=cell_later B4.out (HC.out 6 _ rfl);have q4_7:=cell_later B4.out (HC.out 7 _ rfl);have q4_8:=cell_later B4.out (HC.out 8 _ rfl);have q4_9:=cell_later B4.out (HC.out 9 _ rfl);have q4_10:=cell_later B4.out (HC.out 10 _ rfl);have q4_11:=cell_later B4.out (HC.out 11 _ rfl);clear h5 b5)
          | (go_at_call 40;refine (put09 1 rfl O2.out S2.out HKn.out (by decide) (by decide)).mono ?_;rintro e w3 ⟨v3,rfl,h5,b5⟩;have B3:=Lib.hid (B2.out.trans b5);have O3:=Lib.hid h5;have S3:=Lib.hid (Nat.le_trans S2.out b5.size);have q3_0:=cell_later B3.out (HC.out 0 _ rfl);have q3_1:=cell_later B3.out (HC.out 1 _ rfl);have q3_2:=cell_later B3.out (HC.out 2 _ rfl);have q3_3:=cell_later B3.out (HC.out 3 _ rfl);have q3_4:=cell_later B3.out (HC.out 4 _ rfl);have q3_5:=cell_later B3.out (HC.out 5 _ rfl);have q3_6:=cell_later B3.out (HC.out 6 _ rfl);have q3_7:=cell_later B3.out (HC.out 7 _ rfl);have q3_8:=cell_later B3.out (HC.out 8 _ rfl);have q3_9:=cell_later B3.out (HC.out 9 _ rfl);have q3_10:=cell_later B3.out (HC.out 10 _ rfl);have q3_11:=cell_later B3.out (HC.out 11 _ rfl);clear h5 b5))
      have HBASE:=Lib.hid (Nat.le_refl WB.heap.size)
      have HHH:Hid (w6.ownsRow WB.heap.size 5 1 v6 6 ((nodeH ⟨k,f,l,z,d0,d1,d2,d3,s,t,x,c⟩).map (Value.int .u8))):=Lib.hid O6.out
      go_wp2_with (go_at_call 95;refine (all09g_any k f l z d0 d1 d2 d3 s t ao m cap c _).mono ?_;rintro e w7 ⟨g,rfl,h7,b7⟩;have G7:=Lib.hid h7;have O7:=Lib.hid (owns_later HHH.out b7);have B7:=Lib.hid (B6.out.trans (b7.mono S6.out));have S7:=Lib.hid (Nat.le_trans S6.out b7.size);clear h7 b7)
      go_loopw [4,7] (fun vv iv wr=>∃ i:Int,iv=.int .i64 i∧(0≤i∧i≤6)∧Hid (wr.ownsRow WB.heap.size 5 1 vv (6+2 * i.toNat) ((nodeH ⟨k,f,l,z,d0,d1,d2,d3,s,t,x,c⟩ ++ putsB ([d0,d1,d2,d3,s,t].take i.toNat)).map (Value.int .u8)))∧Hid (Below WB.heap.size WB wr)∧Hid (wr.heap[g]?=some (sixObj [d0,d1,d2,d3,s,t]))) (fun _ iv _=>6 - (intOf iv).toNat)
      case atStart=>exact ⟨0,rfl,by decide,Lib.hid (by rw [show putsB ([d0,d1,d2,d3,s,t].take (Int.toNat 0))=[] from rfl,List.append_nil];exact O7.out),B7,G7⟩
      case round=>
        obtain ⟨i,rfl,hi,HR,HB,HG⟩:=hrel
        by_cases hlt:i < 6
        · obtain ⟨y,hy⟩:∃ y,[d0,d1,d2,d3,s,t][i.toNat]?=some y:=⟨_,List.getElem?_eq_getElem (by show i.toNat < 6;omega)⟩
          have hyu:=HPU.out y (List.mem_of_getElem? hy)
          have d:=six_obj HG.out hy
          have i1:i < 6:=hlt
          have i0:0≤i:=hi.1
          have HS:Hid (WB.heap.size≤wr.heap.size):=Lib.hid HB.out.size
          have cP:=Put09g_any WB.heap.size _ (6+2 * i.toNat) _ y 2 g _ wr HR.out HS.out hyu.1 (by have:=hyu.2;omega) (by decide) (by omega) HG.out (sixObj_ty _)
          have HT:Hid (putsB ([d0,d1,d2,d3,s,t].take (i.toNat+1))=putsB ([d0,d1,d2,d3,s,t].take i.toNat) ++ leB y 2):=Lib.hid (by
            rw [List.take_add_one,hy]
            unfold putsB
            rw [List.flatMap_append]
            simp)
          have CP:=Lib.hid cP
          clear hy cP hyu
          go_wp2_with (go_at_call 40;refine CP.out.mono ?_;rintro e w8 ⟨⟨v8,rfl,h8,b8⟩,g8⟩;have O8:=Lib.hid h8;have B8:=Lib.hid (HB.out.trans b8);have G8:=Lib.hid g8;clear h8 b8 g8)
          go_roundw
          case rel=>exact ⟨i+1,by go_num,by omega,Lib.hid (by rw [show (i+1).toNat=i.toNat+1 by omega,HT.out,← List.append_assoc,show 6+2 * (i.toNat+1)=6+2 * i.toNat+2 by omega];exact O8.out),B8,G8⟩
          case measure=>simp [intOf];omega
        · have hin:i=6:=by omega
          subst hin
          have hTT:putsB ([d0,d1,d2,d3,s,t].take 6)=nodeP ⟨k,f,l,z,d0,d1,d2,d3,s,t,x,c⟩:=puts_node _ _ _ _ _ _ _ _ _ _ _ _
          have HR':Hid (_root_.Go.World.ownsRow wr WB.heap.size 5 1 _ 18 ((nodeH ⟨k,f,l,z,d0,d1,d2,d3,s,t,x,c⟩ ++ nodeP ⟨k,f,l,z,d0,d1,d2,d3,s,t,x,c⟩).map (Value.int .u8))):=Lib.hid (by rw [← hTT];exact HR.out)
          clear HR
          have HR:=HR'
          clear HR'
          have hl18:(nodeH ⟨k,f,l,z,d0,d1,d2,d3,s,t,x,c⟩ ++ nodeP ⟨k,f,l,z,d0,d1,d2,d3,s,t,x,c⟩).length=18:=by rw [List.length_append,nodeH_length,nodeP_length]
          have hlb18:∀ y ∈ nodeH ⟨k,f,l,z,d0,d1,d2,d3,s,t,x,c⟩ ++ nodeP ⟨k,f,l,z,d0,d1,d2,d3,s,t,x,c⟩,0≤y∧y≤255:=node_bytesP _
          have hpd:(nodeH ⟨k,f,l,z,d0,d1,d2,d3,s,t,x,c⟩ ++ nodeP ⟨k,f,l,z,d0,d1,d2,d3,s,t,x,c⟩) ++ List.replicate (28 - (nodeH ⟨k,f,l,z,d0,d1,d2,d3,s,t,x,c⟩ ++ nodeP ⟨k,f,l,z,d0,d1,d2,d3,s,t,x,c⟩).length) 0=node28 ⟨k,f,l,z,d0,d1,d2,d3,s,t,x,c⟩:=by unfold node28;rw [if_neg hf2];rfl
          obtain ⟨L,hL⟩:∃ L,nodeH ⟨k,f,l,z,d0,d1,d2,d3,s,t,x,c⟩ ++ nodeP ⟨k,f,l,z,d0,d1,d2,d3,s,t,x,c⟩=L:=⟨_,rfl⟩
          rw [hL] at HR hl18 hlb18 hpd
          have HLB:=Lib.hid hlb18
          have HPD:=Lib.hid hpd
          have HL18:=Lib.hid hl18
          obtain ⟨o9,c9,rfl⟩:=owns_len HR.out
          clear hL hlb18 hpd hTT hl18
          go_wp2_with fail
          go_loopw [4] (fun vv wr=>∃ j:Nat,L.length≤j∧j≤28∧(∃ ao cap,vv=.slice ao j cap)∧Hid (Zeroed WB WB.heap.size L j vv wr)) (fun vv _=>28 - lenOf9 vv)
          case atStart=>exact ⟨18,by rw [HL18.out];exact Nat.le_refl _,by decide,⟨o9,c9,rfl⟩,Lib.hid ⟨by rw [HL18.out,Nat.sub_self,List.replicate_zero,List.append_nil];exact HR.out,HB.out⟩⟩
          case round=>
            obtain ⟨j,hj1,hj2,⟨bo,bc,rfl⟩,HR⟩:=hrel
            have HS:Hid (WB.heap.size≤wr.heap.size):=Lib.hid (Nat.le_trans HBASE.out HR.out.2.size)
            by_cases hlt:j < 28
            · have j1:(j:Int) < 28:=by omega
              go_wp2_with (at_builtin;refine wp_append_bytes rfl (.tmp 68) (.tmp 69) rfl WB.heap.size j _ _ rfl (HR.out.1.alloc _) (some ⟨wr.heap.size,0,none⟩) 1 1 [0] rfl (one_bts wr 0 (by decide)) (by simp) (by omega) (by have:=HS.out;simp;omega) ?_;intro v1 w1 hown1 hb1;have HZ1:=Lib.hid (zeroed_step HR.out hj1 hown1 hb1 HS.out);obtain ⟨b1,c1,rfl⟩:=owns_len hown1;clear hown1 hb1)
              go_roundw
              case rel=>first | exact ⟨j+1,by omega,by omega,⟨b1,c1,rfl⟩,HZ1⟩ | (refine ⟨.slice b1 (j+1) c1,_,_,_,_,_,_,⟨j+1,by omega,by omega,⟨b1,c1,rfl⟩,HZ1⟩,?_⟩;rfl)
              case measure=>simp [lenOf9];omega
            · have hjt:j=28:=by omega
              subst hjt
              have hbt:∀ y ∈ L ++ List.replicate (28 - L.length) 0,0≤y∧y≤255:=fun y hy=>by
                rcases List.mem_append.1 hy with h | h
                · exact HLB.out y h
                · rw [List.eq_of_mem_replicate h];decide
              have hP:Hid (L ++ List.replicate (28 - L.length) 0=node28 ⟨k,f,l,z,d0,d1,d2,d3,s,t,x,c⟩):=Lib.hid (HPD.out)
              rw [hP.out] at hbt
              have hown:=HR.out.1
              rw [hP.out] at hown
              obtain ⟨bo',bc',hv',hB'⟩:=owns_bts hown hbt (by decide)
              cases hv'
              have cS:=refSum_any bo 28 bc (node28 ⟨k,f,l,z,d0,d1,d2,d3,s,t,x,c⟩) wr hB'
              have hsb:=sumS_bounds (node28 ⟨k,f,l,z,d0,d1,d2,d3,s,t,x,c⟩)
              have HOW:=Lib.hid hown
              have HBF:=Lib.hid HR.out.2
              have HNB:=Lib.hid hbt
              have HN32:Hid (node32 ⟨k,f,l,z,d0,d1,d2,d3,s,t,x,c⟩=node28 ⟨k,f,l,z,d0,d1,d2,d3,s,t,x,c⟩ ++ leB (sumS (node28 ⟨k,f,l,z,d0,d1,d2,d3,s,t,x,c⟩)) 4):=Lib.hid rfl
              generalize node28 ⟨k,f,l,z,d0,d1,d2,d3,s,t,x,c⟩=M at *
              generalize sumS M=SS at *
              have hw:IntKind.i64.wrap SS=SS:=by rw [IntKind.wrap_i64];omega
              clear hbt hown hB'
              go_wp2_with (first
                | (go_at_call 84;refine cS.mono ?_;rintro e w7 ⟨rfl,rfl⟩)
                | (go_at_call 40;refine (put09 4 rfl HOW.out HS.out (by omega) (by decide) (by decide)).mono ?_;rintro e w8 ⟨v8,rfl,h5,b5⟩;have B8:=Lib.hid (HBF.out.trans b5);have O8:=Lib.hid h5;clear h5 b5))
              go_ret2
              exact ⟨v8,by rw [HO.out.2];rfl,by rw [HO.out.1,HN32.out];exact (fresh_of_owns O8.out (fun y hy=>by
                rcases List.mem_append.1 hy with h | h
                · exact HNB.out y h
                · exact leB_bytes _ _ y h) (by decide)).mono W1.out.size,W1.out.trans (B8.out.mono W1.out.size)⟩
end Go.Proofs.YtcefmpnijjcekaaGreatDoor
namespace Go.Proofs.YtcefmpnijjcekaaGreatDoor
open Go.RowKit
theorem num09 {w:World} {ao:Option Addr} {len cap:Nat} {zs:List Int} {pz kz:Int} (hB:Bts w ao len zs) (hk:kz.toNat≤4) (hpk:pz.toNat+kz.toNat≤len) (h0:0≤pz∧0≤kz) :
    Calls Tryz.prog 51 #[.slice ao len cap,.int .i64 pz,.int .i64 kz] w fun e w'=>e=.returned (.int .i64 (leN zs pz.toNat kz.toNat))∧w'=w:=by
  obtain ⟨p,rfl⟩:=Int.eq_ofNat_of_zero_le h0.1
  obtain ⟨k,rfl⟩:=Int.eq_ofNat_of_zero_le h0.2
  exact (Num04_any ao len cap zs p k w hB hk hpk).mono (fun e w' h=>⟨h.1,h.2.symm⟩)
set_option maxHeartbeats 1600000 in
theorem GetExtent_any (g off cap:Nat) (zs:List Int) (w:World) (hB:Bts w (some ⟨g,off,none⟩) 4 zs) :
    Calls Tryz.prog 54 #[.slice (some ⟨g,off,none⟩) (4:Nat) cap] w fun e w'=>∃ p q,e=.returned (.agg #[.int .i64 (zs.getD 0 0),.complex .f64 p q])∧FI p (leN zs 1 2)∧FI q (zs.getD 3 0)∧Below w.heap.size w w':=by
  have SC:=st_cx
  have HB:=Lib.hid hB
  obtain ⟨b,o,he,hc⟩:=hB.2.2.2.resolve_left (by decide)
  simp only [Option.some.injEq,Addr.mk.injEq,and_true] at he
  obtain ⟨rfl,rfl⟩:=he
  have f0:=hc 0 (by decide)
  have f3:=hc 3 (by decide)
  rw [Nat.add_zero] at f0
  have z0:=hB.2.2.1 _ (getD_mem (l:=zs) (k:=0) (by rw [hB.1];decide))
  have z3:=hB.2.2.1 _ (getD_mem (l:=zs) (k:=3) (by rw [hB.1];decide))
  have hn:=leN_bounds hB.2.2.1 1 2 (by rw [hB.1];decide)
  have e2:(256:Int)^2=65536:=rfl
  rw [e2] at hn
  have HK:Hid (∀ W,Below w.heap.size w W→W.cell? ⟨g,off,none⟩=some (.int .u8 (zs.getD 0 0))∧W.cell? ⟨g,off+3,none⟩=some (.int .u8 (zs.getD 3 0))∧Hid (Below w.heap.size w W)):=Lib.hid (fun W h=>⟨cell_later h f0,cell_later h f3,Lib.hid h⟩)
  have HF1:Hid (FI (floatOfInt .f64 (leN zs 1 2)) (leN zs 1 2)):=Lib.hid (fi_ofInt _ (by omega))
  have HF2:Hid (FI (floatOfInt .f64 (zs.getD 3 0)) (zs.getD 3 0)):=Lib.hid (fi_ofInt _ (by omega))
  have B0:Hid (Below w.heap.size w (w.alloc (.cells #[.int .i64 0,.complex .f64 0 0] 99)).drew):=Lib.hid ((Below.refl _ _).alloc (Nat.le_refl _) _).drew
  have B1:Hid (∀ c:Array Value,Below w.heap.size w (w.alloc (.cells c 99)).drew):=Lib.hid (fun c=>((Below.refl _ _).alloc (Nat.le_refl _) _).drew)
  have hw0:IntKind.i64.wrap (zs.getD 0 0)=zs.getD 0 0:=by rw [IntKind.wrap_i64];omega
  have cN:=fun W (hW:Below w.heap.size w W)=>num09 (cap:=cap) (zs:=zs) (pz:=1) (kz:=2) (HB.out.later hW) (by decide) (by decide) (by decide)
  have CN:=Lib.hid cN
  clear hB hc f0 f3 z0 z3 hn cN
  generalize zs.getD 0 0=a at *
  generalize zs.getD 3 0=c at *
  rw [show leN zs (Int.toNat 1) (Int.toNat 2)=leN zs 1 2 from rfl] at CN
  generalize leN zs 1 2=f at *
  go_enter Tryz.func54,Tryz.ntmps54
  go_wp2_with fail
  go_region_held (fun W=>W.cell? ⟨g,off,none⟩=some (.int .u8 a)∧W.cell? ⟨g,off+3,none⟩=some (.int .u8 c)∧Hid (Below w.heap.size w W)) (first | exact HK.out _ B0.out | exact HK.out _ (B1.out _))
    (first | (go_at_call 51;refine (CN.out _ B0.out).mono ?_;rintro e w' ⟨rfl,rfl⟩))
  all_goals go_wp2_with fail
  all_goals
    refine bodyPost_ret (v:=.agg #[.int .i64 a,.complex .f64 (floatOfInt .f64 f) (floatOfInt .f64 c)]) ?_ rfl ⟨_,_,rfl,HF1.out,HF2.out,B1.out _⟩
    rw [results_one9 rfl]
    go_simp
    try rfl
theorem cell_under {base:Nat} {w w':World} {p:Addr} {v:Value} (hb:Below base w w') (h:w.cell? p=some v) (hp:p.block < base):w'.cell? p=some v:=by
  rw [← h]
  unfold World.cell?
  rw [hb.block p.block hp]
theorem frozen_under {base:Nat} {w w':World} {g:Nat} (hb:Below base w w') (h:∀ j,w.frozen? ⟨g,j,none⟩=false) (hp:g < base):∀ j,w'.frozen? ⟨g,j,none⟩=false:=fun j=>by
  rw [World.frozen?_of_block (w:=w) (a:=⟨g,j,none⟩) (hb.block g hp)];exact h j
def NodeVar (w0:World) (g:Nat) (V:Nat→Int) (sl:Value) (wr:World):Prop:=
  Below w0.heap.size w0 wr∧(∀ o,o < 12→o≠10→wr.cell? ⟨g,o,none⟩=some (.int .i64 (V o)))∧wr.cell? ⟨g,10,none⟩=some sl∧∀ j,wr.frozen? ⟨g,j,none⟩=false
theorem NodeVar.lt {w0 wr:World} {g:Nat} {V:Nat→Int} {sl:Value} (h:NodeVar w0 g V sl wr):g < wr.heap.size:=World.block_lt_of_cell? _ _ h.2.2.1
theorem NodeVar.later {w0 wr wx:World} {g:Nat} {V:Nat→Int} {sl:Value} (h:NodeVar w0 g V sl wr) (hb:Below wr.heap.size wr wx):NodeVar w0 g V sl wx:=
  ⟨h.1.trans (hb.mono h.1.size),fun o h1 h2=>cell_later hb (h.2.1 o h1 h2),cell_later hb h.2.2.1,fun j=>by rw [hb.frozen (p:=⟨g,j,none⟩) h.lt];exact h.2.2.2 j⟩
theorem NodeVar.under {w0 wr wx:World} {g base:Nat} {V:Nat→Int} {sl:Value} (h:NodeVar w0 g V sl wr) (hb:Below base wr wx) (hg:g < base) (h0:w0.heap.size≤g):NodeVar w0 g V sl wx:=
  ⟨h.1.trans (hb.mono (by omega)),fun o h1 h2=>cell_under hb (h.2.1 o h1 h2) hg,cell_under hb h.2.2.1 hg,frozen_under hb h.2.2.2 hg⟩
theorem NodeVar.setSl {w0 wr:World} {g:Nat} {V:Nat→Int} {sl sl':Value} (h:NodeVar w0 g V sl wr) (hg:w0.heap.size≤g):NodeVar w0 g V sl' (wr.setCell ⟨g,10,none⟩ sl'):=
  ⟨h.1.setCell (p:=⟨g,10,none⟩) hg _,fun o h1 h2=>by rw [World.cell?_setCell_other (h:=by intro e';exact h2 (by simpa using (congrArg Addr.off e').symm))];exact h.2.1 o h1 h2,World.cell?_setCell_same wr _ _ h.2.2.1,fun j=>by simpa using h.2.2.2 j⟩
theorem NodeVar.set {w0 wr:World} {g k:Nat} {V:Nat→Int} {sl:Value} (h:NodeVar w0 g V sl wr) (hg:w0.heap.size≤g) (hk:k < 12) (hk10:k≠10) (x:Int):NodeVar w0 g (fun o=>if o=k then x else V o) sl (wr.setCell ⟨g,k,none⟩ (.int .i64 x)):=by
  refine ⟨h.1.setCell (p:=⟨g,k,none⟩) hg _,fun o ho hne=>?_,?_,fun j=>by simpa using h.2.2.2 j⟩
  · show (wr.setCell ⟨g,k,none⟩ (.int .i64 x)).cell? ⟨g,o,none⟩=some (.int .i64 (if o=k then x else V o))
    by_cases e:o=k
    · subst e
      rw [if_pos rfl]
      exact World.cell?_setCell_same wr _ _ (h.2.1 o ho hne)
    · rw [if_neg e,World.cell?_setCell_other (h:=by intro e';exact e (by simpa using (congrArg Addr.off e').symm))]
      exact h.2.1 o ho hne
  · rw [World.cell?_setCell_other (h:=by intro e';exact hk10 (by simpa using congrArg Addr.off e'))]
    exact h.2.2.1
theorem NodeVar.drew {w0 wr:World} {g:Nat} {V:Nat→Int} {sl:Value} (h:NodeVar w0 g V sl wr):NodeVar w0 g V sl wr.drew:=⟨h.1.drew,fun o h1 h2=>h.2.1 o h1 h2,h.2.2.1,fun j=>h.2.2.2 j⟩
theorem NodeVar.congr {w0 wr:World} {g:Nat} {V U:Nat→Int} {sl:Value} (h:NodeVar w0 g V sl wr) (he:∀ o,o < 12→o≠10→V o=U o):NodeVar w0 g U sl wr:=
  ⟨h.1,fun o h1 h2=>by rw [h.2.1 o h1 h2,he o h1 h2],h.2.2⟩
def headV (a b c d:Int) (o:Nat):Int:=[a,b,c,d].getD o 0
theorem nodevar_new (w0:World) (a b c d:Int):NodeVar w0 w0.heap.size (headV a b c d) (.slice none 0 0) (w0.alloc (.cells #[.int .i64 a,.int .i64 b,.int .i64 c,.int .i64 d,.int .i64 0,.int .i64 0,.int .i64 0,.int .i64 0,.int .i64 0,.int .i64 0,.slice none 0 0,.int .i64 0] 68)):=by
  refine ⟨(Below.refl _ _).alloc (Nat.le_refl _) _,fun o ho hne=>?_,?_,fun j=>by rw [World.frozen?_alloc_mark];simp⟩
  · rw [World.cell?_alloc_new]
    match o,ho,hne with
    | 0,_,_ | 1,_,_ | 2,_,_ | 3,_,_ | 4,_,_ | 5,_,_ | 6,_,_ | 7,_,_ | 8,_,_ | 9,_,_ | 11,_,_=>rfl
    | 10,_,h=>exact absurd rfl h
    | o+12,h,_=>exact absurd h (by omega)
  · rw [World.cell?_alloc_new];rfl
theorem owns_setCell {w:World} {base n sz g k:Nat} {e:TypeId} {v u:Value} {xs:List Value} (h:w.ownsRow base e sz v n xs) (hg:g < base):(w.setCell ⟨g,k,none⟩ u).ownsRow base e sz v n xs:=by
  refine ⟨h.1,?_⟩
  rcases h.2 with h2 | ⟨g',cap,cur,hv,hg',hh,rest⟩
  · exact Or.inl h2
  · refine Or.inr ⟨g',cap,cur,hv,hg',?_,rest⟩
    rw [Below.heap_setCell _ _ _ _ (by show g'≠g;omega)]
    exact hh
def rSlots (zs:List Int):List PX:=[⟨zs.getD 6 0,leN zs 7 2,zs.getD 9 0⟩,⟨zs.getD 10 0,leN zs 11 2,zs.getD 13 0⟩,⟨zs.getD 14 0,leN zs 15 2,zs.getD 17 0⟩]
def rFil (l:List PX):List PX:=l.filter fun x=>!decide (x=noX)
def rNode (zs:List Int):PNode:=
  if zs.getD 1 0=2 then ⟨zs.getD 0 0,2,leN zs 2 2,leN zs 4 2,0,0,0,0,0,0,rFil (rSlots zs),leN zs 18 2⟩
  else ⟨zs.getD 0 0,zs.getD 1 0,leN zs 2 2,leN zs 4 2,leN zs 6 2,leN zs 8 2,leN zs 10 2,leN zs 12 2,leN zs 14 2,leN zs 16 2,[],0⟩
def isNodeR (zs:List Int):Bool:=decide (zs.length=32)&&((rNode zs).sound&&decide (node32 (rNode zs)=zs))
def rdecN (zs:List Int):PNode:=if isNodeR zs=true then rNode zs else noNode
def rdecErr (zs:List Int):Int:=if isNodeR zs=true then 0 else 2
theorem sub_leN {zs:List Int} {i:Nat} (h:i+4≤zs.length):((zs.drop i).take 4).getD 0 0=zs.getD i 0∧leN ((zs.drop i).take 4) 1 2=leN zs (i+1) 2∧((zs.drop i).take 4).getD 3 0=zs.getD (i+3) 0:=by
  have e:∀ j,j < 4→((zs.drop i).take 4).getD j 0=zs.getD (i+j) 0:=fun j hj=>by
    rw [take_getD _ _ _ hj,List.getD_eq_getElem?_getD,List.getElem?_drop,← List.getD_eq_getElem?_getD]
  refine ⟨e 0 (by decide),leN_of_eq 2 (fun j hj=>?_),e 3 (by decide)⟩
  rw [e (1+j) (by omega),show i+(1+j)=i+1+j by omega]
theorem four_of {l:List Int} (h:l.length=4):l=[l.getD 0 0,l.getD 1 0,l.getD 2 0,l.getD 3 0]:=by
  match l,h with
  | [a,b,c,d],_=>rfl
theorem sub_zero {zs:List Int} (hz:∀ z ∈ zs,0≤z∧z≤255) {i:Nat} (h:i+4≤zs.length):decide ((zs.drop i).take 4=[0,0,0,0])=decide ((⟨zs.getD i 0,leN zs (i+1) 2,zs.getD (i+3) 0⟩:PX)=noX):=by
  have hl:((zs.drop i).take 4).length=4:=by rw [List.length_take,List.length_drop];omega
  obtain ⟨e0,e1,e3⟩:=sub_leN h
  have hb:∀ j,j < 4→0≤((zs.drop i).take 4).getD j 0:=fun j hj=>(hz _ (List.mem_of_mem_drop (List.mem_of_mem_take (getD_mem (by omega))))).1
  have b1:=hb 1 (by decide)
  have b2:=hb 2 (by decide)
  rw [← e0,← e1,← e3]
  generalize (zs.drop i).take 4=l at *
  have e:leN l 1 2=l.getD 1 0+l.getD 2 0 * 256:=by
    show 0+l.getD (1+0) 0 * 256^0+l.getD (1+1) 0 * 256^1=_
    rw [Nat.add_zero,show 1+1=2 from rfl]
    omega
  rw [e,Bool.eq_iff_iff,decide_eq_true_iff,decide_eq_true_iff]
  constructor
  · intro h'
    rw [h']
    rfl
  · intro h'
    have h1:l.getD 0 0=0:=congrArg PX.a h'
    have h2:l.getD 1 0+l.getD 2 0 * 256=0:=congrArg PX.f h'
    have h3:l.getD 3 0=0:=congrArg PX.c h'
    rw [four_of hl,h1,h3,show l.getD 1 0=0 by omega,show l.getD 2 0=0 by omega]
theorem rfil_step {l:List PX} {i:Nat} {x:PX} (h:l[i]?=some x):rFil (l.take (i+1))=if x=noX then rFil (l.take i) else rFil (l.take i) ++ [x]:=by
  unfold rFil
  rw [take_at h,List.filter_append]
  by_cases e:x=noX
  · rw [if_pos e];simp [e]
  · rw [if_neg e];simp [e]
theorem rfil_length (l:List PX):(rFil l).length≤l.length:=List.length_filter_le _ _
end Go.Proofs.YtcefmpnijjcekaaGreatDoor
