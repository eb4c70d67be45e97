/- Proved here: what the landed image's Store answers of a node of the old format with few pointers, where the node had no blocks of its own. The conditions stand at each theorem. Proved here: the laws' awake: the landed image makes, takes, stores, tells a node and counts what is free. No conditions. Proved here: plain facts on a volume's blocks: what is set is read, what is .. -/
import Derived.Test.YtcefmpnijjcekaaGreatDoorTk21
import Derived.Test.YtcefmpnijjcekaaGreatDoorTk12
import Derived.Test.YtcefmpnijjcekaaGreatDoorTk20
import Derived.Test.YtcefmpnijjcekaaGreatDoorTk0
import Derived.Deep.Matrix
import Derived.Test.YtcefmpnijjcekaaGreatDoorTk14
set_option linter.unusedVariables false
set_option linter.unusedSimpArgs false
namespace Go.Proofs.YtcefmpnijjcekaaGreatDoor
open Go.RowKit
set_option maxRecDepth 100000 in
theorem alloc_node (w:World):(Instr.alloc 68 true (.tuple #[])).run Tryz.prog w=.ok (.pointer (some ⟨w.heap.size,0,none⟩)) (w.alloc (.cells nodeZ 68)):=by
  rfl
theorem wp_new_node {ops:Array Oper} {rest:List Oper} {o:Oper} {a:Act} {w:World} {Q:Exit→Act→World→Prop} (hg:o.guard=none) (ho:o.op=.alloc 68) (dst:Option Tmp) (hd:o.dst=dst)
    (h:∀ n1 w1,n1=w.heap.size→w1=w.alloc (.cells nodeZ 68)→wpList Tryz.prog ops Q rest (a.put dst (.pointer (some ⟨n1,0,none⟩))) w1):wpList Tryz.prog ops Q (o::rest) a w:=by
  subst hd
  refine wpList_plain hg fun K hK=>?_
  unfold Oper.wp execOp
  simp only [ho,Sem.run_bind,alloc_node,Sem.run_pure,Result.andThen_ok]
  exact hK _ _ (h _ _ rfl rfl)
theorem FreshI.iarg {w:World} {base n cap:Nat} {ao:Option Addr} {zs:List Int} (h:FreshI w base (.slice ao n cap) zs):IArg w ao zs.length cap zs:=by
  obtain ⟨a2,c2,e,h2,_⟩:=h
  simp only [Value.slice.injEq] at e
  obtain ⟨rfl,rfl,rfl⟩:=e
  exact h2
theorem range_later2 {w wx:World} {b o:Nat} {cs:List Value} (hb:Below w.heap.size w wx) (h:w.rangeAt b o cs):wx.rangeAt b o cs:=fun j v hv=>cell_later hb (h j v hv)
theorem arg_grew {F F':Nat→Prop} {w w':World} {b o l c:Nat} {zs:List Int} (h:Arg w (some ⟨b,o,none⟩) l c zs) (hG:Grew F F' w w') (hb:¬ F b):Arg w' (some ⟨b,o,none⟩) l c zs:=by
  obtain ⟨⟨h1,h2,h3,h4⟩,h5,h6,h7⟩:=h
  refine ⟨⟨h1,h2,h3,?_⟩,h5,h6,h7⟩
  rcases h4 with h4 | ⟨b',o',e,hc⟩
  · exact Or.inl h4
  · cases e
    by_cases h0:l=0
    · exact Or.inl h0
    · have hlt:=World.block_lt_of_cell? _ _ (hc 0 (by omega))
      exact Or.inr ⟨b,o,rfl,fun j hj=>by rw [cell_of_heap (p:=⟨b,o+j,none⟩) (hG.block hlt hb)];exact hc j hj⟩
theorem few_row {W:World} {n:Nat} {kk ll zz d0 d1 d2 d3 sg db:Int} (h:W.rangeAt n 0 [.int .i64 0,.int .i64 1,.int .i64 0,.int .i64 0,.int .i64 d0,.int .i64 d1,.int .i64 d2,.int .i64 d3,.int .i64 sg,.int .i64 db,.slice none 0 0,.int .i64 0]) :
    ((((W.setCell ⟨n,0,none⟩ (.int .i64 kk)).setCell ⟨n,2,none⟩ (.int .i64 ll)).setCell ⟨n,3,none⟩ (.int .i64 zz)).drew).rangeAt n 0 [.int .i64 kk,.int .i64 1,.int .i64 ll,.int .i64 zz,.int .i64 d0,.int .i64 d1,.int .i64 d2,.int .i64 d3,.int .i64 sg,.int .i64 db,.slice none 0 0,.int .i64 0]:=fun j v hj=>by
  have h0:=h 0 _ rfl
  have h2:=h 2 _ rfl
  have h3:=h 3 _ rfl
  rw [Nat.zero_add] at h0 h2 h3 ⊢
  show (((W.setCell ⟨n,0,none⟩ (.int .i64 kk)).setCell ⟨n,2,none⟩ (.int .i64 ll)).setCell ⟨n,3,none⟩ (.int .i64 zz)).cell? ⟨n,j,none⟩=some v
  have ne:∀ {a b:Nat},a≠b→(⟨n,a,none⟩:Addr)≠⟨n,b,none⟩:=fun h e=>h (by simp at e)
  by_cases e3:j=3
  · subst e3
    cases Option.some.inj hj
    exact World.cell?_setCell_same _ _ _ (by rw [World.cell?_setCell_other (h:=ne (by decide)),World.cell?_setCell_other (h:=ne (by decide))];exact h3)
  · rw [World.cell?_setCell_other (h:=ne (Ne.symm e3))]
    by_cases e2:j=2
    · subst e2
      cases Option.some.inj hj
      exact World.cell?_setCell_same _ _ _ (by rw [World.cell?_setCell_other (h:=ne (by decide))];exact h2)
    · rw [World.cell?_setCell_other (h:=ne (Ne.symm e2))]
      by_cases e0:j=0
      · subst e0
        cases Option.some.inj hj
        exact World.cell?_setCell_same _ _ _ h0
      · rw [World.cell?_setCell_other (h:=ne (Ne.symm e0))]
        have:=h j v (by
          match j,hj with
          | 0,_=>omega
          | 1,hj=>exact hj
          | 2,_=>omega
          | 3,_=>omega
          | n+4,hj=>exact hj)
        rw [Nat.zero_add] at this
        exact this
theorem node_there {w w1:World} {n1:Nat} (hn:n1=w.heap.size) (hw:w1=w.alloc (.cells nodeZ 68)):w1.there n1 0 12∧n1 < w1.heap.size∧w.heap.size≤n1∧Below w.heap.size w w1:=by
  subst hn hw
  exact ⟨there_newC (Below.refl _ _) rfl,by simp,Nat.le_refl _,(Below.refl _ _).alloc (Nat.le_refl _) _⟩
theorem free_nonneg (f:List Int) {hi:Nat} (h:59≤hi):0≤freeOf f hi:=by
  have h1:∀ d,cnt (flag f) (59+d)≤cnt (flag f) 59+d:=fun d=>by
    induction d with
    | zero=>exact Nat.le_refl _
    | succ d ih=>
      show cnt (flag f) (59+d)+(if flag f (59+d) then 1 else 0)≤_
      split <;> omega
  have h2:=h1 (hi - 59)
  rw [show 59+(hi - 59)=hi by omega] at h2
  unfold freeOf
  omega
theorem ptrs_nums {l:List Int} (h:l.all okP=true):okNums l:=fun x hx=>by
  have:=List.all_eq_true.1 h x hx
  unfold okP at this
  have:=of_decide_eq_true this
  omega
theorem ptrsOk_nums {l:List Int} (h:ptrsOk l=true):okNums l∧l.length≤96:=by
  unfold ptrsOk at h
  rw [Bool.and_eq_true,decide_eq_true_eq] at h
  have h2:=h.2
  unfold apartL at h2
  rw [Bool.and_eq_true] at h2
  exact ⟨ptrs_nums h2.1,h.1⟩
theorem Reads.nums {B:List (List Int)} {x:PNode} {ps os:List Int} (h:Reads B x ps os):okNums ps∧ps.length≤96:=by
  rcases h with ⟨_,rfl,_⟩ | ⟨_,sg,q0,q1,q2,u0,u1,u2,_,_,_,_,_,_,_,h96,ha⟩
  · exact ⟨by intro x hx;simp at hx,by decide⟩
  · unfold apartL at ha
    rw [Bool.and_eq_true,List.all_append,Bool.and_eq_true] at ha
    exact ⟨ptrs_nums ha.1.1,h96⟩
theorem fresh0 {l:List Int} (h:ptrsOk l=true):freshErr [] 0 l=0:=by
  unfold ptrsOk at h
  rw [Bool.and_eq_true] at h
  unfold freshErr
  simp [h.2]
def bareN (kk ll zz:Int):PNode:=⟨kk,1,ll,zz,0,0,0,0,0,0,[],0⟩
def fewN (kk ll zz:Int) (l:List Int):PNode:=⟨kk,1,ll,zz,l.getD 0 0,l.getD 1 0,l.getD 2 0,l.getD 3 0,singleP l [],doubleP l [],[],0⟩
def fewF (B:List (List Int)) (had l:List Int):List Int:=markL (markL (flagsAt B) false had) true l
set_option maxRecDepth 100000 in
set_option maxHeartbeats 6400000 in
theorem store_few {w:World} {p gb gl gs cb cl cs:Nat} {I:Img} (k:Nat) (hk:k < 32) {had:List Int} {kk ll zz y0 y1 y2 y3 y4 y5 y6:Int} {xo lo:Option Addr} {xm xc m lc:Nat} {l:List Int} (h:ImgAt w p gb gl gs cb cl cs I) (hV:VolOk I.bl) (hrd:Reads I.bl (nodeAt I.bl k) had []) (hh:had.all (hereB I.bl.length)=true)
    (hb:(bareN kk ll zz).sound=true∧(bareN kk ll zz).small) (hkk:kk≠0) (hA:IArg w lo m lc l) (hok:ptrsOk l=true) (hlh:l.all (hereB I.bl.length)=true) (hn0:needP l=0) (hw0:writesP l []=[]) (hX:(fewN kk ll zz l).sound=true∧(fewN kk ll zz l).small) :
    Calls Tryz.prog 27 #[.pointer (some ⟨p,0,none⟩),.int .i64 k,.agg #[.int .i64 kk,.int .i64 1,.int .i64 ll,.int .i64 zz,.int .i64 y0,.int .i64 y1,.int .i64 y2,.int .i64 y3,.int .i64 y4,.int .i64 y5,.slice xo xm xc,.int .i64 y6],.slice lo m lc] w fun e w'=>e=.returned (.int .i64 0)∧ImgAt w' p gb gl gs cb cl cs { I with bl:=withFlags (withNode I.bl k (fewN kk ll zz l)) (fewF I.bl had l) }∧Grew (fun k=>k=gb) (fun k=>k=gb) w w':=by
  have hp:=h.lt.1
  have hgb:=h.lt.2.1
  have h64:=hV.n64
  have hcell:∀ W,Below w.heap.size w W→W.cell? ⟨p,0,none⟩=some (.slice (some ⟨gb,0,none⟩) I.bl.length cb):=fun W hW=>by rw [hW.cell (p:=⟨p,0,none⟩) hp];exact h.c0
  have hrw:∀ W,Below w.heap.size w W→Rw W gb I.bl:=fun W hW=>h.rb.later h.n0.1 hW
  have himg:∀ W,Below w.heap.size w W→ImgAt W p gb gl gs cb cl cs I:=fun W hW=>h.kept (fun j hj=>hW.block j (by have:=h.lt;rcases hj with rfl | rfl | rfl | rfl <;> omega))
  obtain ⟨hi,he,h59,hle⟩:=hV.ends
  have hnum:=hrd.nums
  have hlnum:=ptrsOk_nums hok
  have HNO:Hid (∀ W,Below w.heap.size w W→Calls Tryz.prog 28 #[.pointer (some ⟨p,0,none⟩),.int .i64 k] W (NodeDone W (nodeAt I.bl k) had [])):=Lib.hid (fun W hW=>inode_at k hk (himg W hW) hV hrd hh)
  have HEN:Hid (∀ W,∃ O,O.length=32∧Calls Tryz.prog 64 #[.agg #[.int .i64 kk,.int .i64 1,.int .i64 ll,.int .i64 zz,.int .i64 0,.int .i64 0,.int .i64 0,.int .i64 0,.int .i64 0,.int .i64 0,.slice none 0 0,.int .i64 0]] W (Handed W.heap.size W O 0)):=Lib.hid (fun W=>by
    have hx:=nenc_any (bareN kk ll zz) (ao:=none) (m:=0) (cap:=0) W hb.2 (XIs.nil W) ⟨Nat.le_refl _,by decide⟩
    unfold nodeOut nodeErr at hx
    rw [hb.1,if_pos rfl,if_pos rfl] at hx
    exact ⟨_,node32_len (Nat.zero_le _),hx⟩)
  have HMY:Hid (∀ W,Below w.heap.size w W→Calls Tryz.prog 65 #[.pointer (some ⟨p,0,none⟩),.agg #[.int .i64 kk,.int .i64 1,.int .i64 ll,.int .i64 zz,.int .i64 0,.int .i64 0,.int .i64 0,.int .i64 0,.int .i64 0,.int .i64 0,.slice none 0 0,.int .i64 0],.slice lo m lc] W (Says W.heap.size W true)):=Lib.hid (fun W hW=>may_yes (bareN kk ll zz) none 0 0 (hcell W hW) (hA.later hW) hkk hok hlh)
  have HFL:Hid (∀ W,Below w.heap.size w W→Calls Tryz.prog 31 #[.pointer (some ⟨p,0,none⟩)] W fun e w'=>e=.returned (.slice (some ⟨gb,128,none⟩) 60 64)∧W=w'):=Lib.hid (fun W hW=>flags_any (hcell W hW) (by omega))
  obtain ⟨f1,hf1⟩:∃ f1,markL (flagsAt I.bl) false had=f1:=⟨_,rfl⟩
  obtain ⟨f2,hf2⟩:∃ f2,markL f1 true l=f2:=⟨_,rfl⟩
  have hF2:fewF I.bl had l=f2:=by unfold fewF;rw [hf1,hf2]
  have h160:f1.length=60:=by rw [← hf1];exact markP_length _ _ _
  have h260:f2.length=60:=by rw [← hf2];exact markP_length _ _ _
  have HM1:Hid (∀ W ha hc oo oc,Below w.heap.size w W→IArg W ha had.length hc had→IArg W oo 0 oc []→Calls Tryz.prog 34 #[.slice (some ⟨gb,128,none⟩) 60 64,.bool false,.slice (some ⟨W.heap.size,0,none⟩) 2 2] (W.alloc (.cells #[.slice ha had.length hc,.slice oo 0 oc] 31)) (Gives (W.alloc (.cells #[.slice ha had.length hc,.slice oo 0 oc] 31)).heap.size (W.alloc (.cells #[.slice ha had.length hc,.slice oo 0 oc] 31)) f1)):=Lib.hid (fun W ha hc oo oc hW h1 h2=>by
    have hbb:Below W.heap.size W (W.alloc (.cells #[.slice ha had.length hc,.slice oo 0 oc] 31)):=(Below.refl _ _).alloc (Nat.le_refl _) _
    have hx:=imark_any _ 64 (flagsAt I.bl) false W.heap.size 0 2 2 [had,[]] _ ((flags_arg (hrw W hW) (by omega)).later hbb) rfl (lists_two h1 h2 31) (by show had.length+(0+0)≤10000;omega) (by decide) (by simpa using hnum.1)
    rw [show [had,[]].flatten=had by simp,hf1] at hx
    exact hx)
  have HM2:Hid (∀ W g o c,Below w.heap.size w W→Arg W (some ⟨g,o,none⟩) 60 c f1→Calls Tryz.prog 34 #[.slice (some ⟨g,o,none⟩) 60 c,.bool true,.slice (some ⟨W.heap.size,0,none⟩) 1 1] (W.alloc (.cells #[.slice lo m lc] 31)) (Gives (W.alloc (.cells #[.slice lo m lc] 31)).heap.size (W.alloc (.cells #[.slice lo m lc] 31)) f2)):=Lib.hid (fun W g o c hW ha=>by
    have hbb:Below W.heap.size W (W.alloc (.cells #[.slice lo m lc] 31)):=(Below.refl _ _).alloc (Nat.le_refl _) _
    have hx:=imark_any (some ⟨g,o,none⟩) c f1 true W.heap.size 0 1 1 [l] _ (ha.later hbb) rfl (fun j zs hj=>by
      match j,hj with
      | 0,hj=>cases Option.some.inj hj;exact ⟨lo,m,lc,by simp,(hA.later hW).later hbb⟩
      | j+1,hj=>simp at hj) (by show l.length+0≤10000;omega) (by decide) (by simpa using hlnum.1)
    rw [show [l].flatten=l by simp,hf2] at hx
    exact hx)
  have HND:Hid (∀ W,Below w.heap.size w W→Calls Tryz.prog 67 #[.int .i64 1,.slice lo m lc] W (Tells W.heap.size W (.int .i64 0))):=Lib.hid (fun W hW=>by
    have hx:=need_old (hA.later hW) hok
    rw [hn0] at hx
    exact hx)
  have HEE:Hid (∀ W,Below w.heap.size w W→Calls Tryz.prog 32 #[.pointer (some ⟨p,0,none⟩)] W (Tells W.heap.size W (.int .i64 hi))):=Lib.hid (fun W hW=>by
    rw [← he]
    exact end_any (hcell W hW) (hrw W hW) rfl hV)
  have HCH:Hid (∀ W g o c oo oc,Arg W (some ⟨g,o,none⟩) 60 c f2→IArg W oo 0 oc []→Calls Tryz.prog 66 #[.slice (some ⟨g,o,none⟩) 60 c,.slice oo 0 oc,.int .i64 0,.int .i64 hi] W fun e w'=>∃ va vc,e=.returned (.tuple #[.slice va 0 vc,.int .i64 0])∧IArg w' va 0 vc []∧Below W.heap.size W w'):=Lib.hid (fun W g o c oo oc ha ho=>by
    refine (choice0_any _ c f2 oo oc 0 hi W ha ho h59 (by omega) (by decide)).mono ?_
    rintro e w' ⟨v,rfl,hf,hb⟩
    have hz:pickE f2 0 hi=0:=by unfold pickE;rw [if_neg (by have:=free_nonneg f2 h59;omega)]
    rw [hz,if_pos rfl,show pickL f2 0 hi=[] by unfold pickL;rw [if_pos rfl]] at hf
    obtain ⟨va,vc,rfl,hi2,_⟩:=hf
    exact ⟨va,vc,by rw [hz];rfl,hi2,hb⟩)
  have HPL:Hid (∀ W va vc,Below w.heap.size w W→IArg W va 0 vc []→Calls Tryz.prog 68 #[.int .i64 1,.slice lo m lc,.slice va 0 vc] W (PlanNone W l [])):=Lib.hid (fun W va vc hW hv=>plan_none (hA.later hW) hv hok (by omega) (by rw [hn0];exact fresh0 hok) hw0)
  have HSN:Hid (∀ W,Below w.heap.size w W→Calls Tryz.prog 63 #[.pointer (some ⟨p,0,none⟩),.int .i64 k,(fewN kk ll zz l).val (.slice none 0 0)] W fun e w'=>e=.returned (.tuple #[])∧Rw w' gb (withNode I.bl k (fewN kk ll zz l))∧Grew (fun k=>k=gb) (fun k=>k=gb) W w'):=Lib.hid (fun W hW=>setNode_any k _ hX.1 hX.2 (XIs.nil W) ⟨Nat.le_refl _,by decide⟩ ⟨node32_len (Nat.zero_le _),node32_byt _⟩ (hcell W hW) (hrw W hW) rfl (by omega) hk)
  have HI:=Lib.hid h
  have HF2:=Lib.hid hF2
  have H160:Hid (f1.length=60∧f1≠[]):=Lib.hid ⟨h160,fun e=>by rw [e] at h160;cases h160⟩
  have H260:Hid (f2.length=60∧f2≠[]):=Lib.hid ⟨h260,fun e=>by rw [e] at h260;cases h260⟩
  have hHAD:=hnum.2
  have h2n:2 < I.bl.length:=by omega
  clear hcell hrw himg he h59 hle hrd hnum hlnum hh hb hok hlh hn0 hw0 hX hf1 hf2 hF2 h160 h260 h hV h64
  obtain ⟨W1,hW1⟩:∃ W1,w.alloc (.cells #[.int .i64 kk,.int .i64 1,.int .i64 ll,.int .i64 zz,.int .i64 y0,.int .i64 y1,.int .i64 y2,.int .i64 y3,.int .i64 y4,.int .i64 y5,.slice xo xm xc,.int .i64 y6] 68)=W1:=⟨_,rfl⟩
  have HB1:Hid (Below w.heap.size w W1):=Lib.hid (by rw [← hW1];exact (Below.refl _ _).alloc (Nat.le_refl _) _)
  have HL1:Hid (w.heap.size < W1.heap.size):=Lib.hid (by rw [← hW1];simp)
  have HR1:Hid (∀ W,Below W1.heap.size W1 W→W.rangeAt w.heap.size 0 [.int .i64 kk,.int .i64 1,.int .i64 ll,.int .i64 zz,.int .i64 y0,.int .i64 y1,.int .i64 y2,.int .i64 y3,.int .i64 y4,.int .i64 y5,.slice xo xm xc,.int .i64 y6]∧W.there w.heap.size 0 12):=Lib.hid (fun W hW=>by
    refine ⟨fun j v hj=>cell_later hW ?_,there_laterT hW (by rw [← hW1];exact there_newC (Below.refl _ _) rfl) (by rw [← hW1];simp)⟩
    rw [← hW1,Nat.zero_add,World.cell?_alloc_new]
    simpa using hj)
  go_enter Tryz.func27,Tryz.ntmps27
  go_wp2_with (first
    | (go_at_call 28
       refine (HNO.out _ HB1.out).mono ?_
       rintro e w2 ⟨po,pm,pc,vh,vo,rfl,_,_,hvh,hvo,hb2⟩
       have HVH:=Lib.hid hvh
       have HVO:=Lib.hid hvo
       obtain ⟨ha,hc,rfl,hia,_⟩:=hvh
       obtain ⟨oo,oc,rfl,hio,_⟩:=hvo
       clear hW1
       have HIA:=Lib.hid hia
       have HIO:=Lib.hid hio
       have HB2:=Lib.hid hb2
       clear hia hio hb2
       obtain ⟨o0,o1,o2,o3,o4,o5,o6,o7,o8,o9,ox,o10⟩:=nodeAt I.bl k
       unfold PNode.val
       dsimp only)
    | (refine wp_new_node rfl rfl (some 9) rfl ?_;intro n1 w3 hn1 hw3;have H3:=Lib.hid (node_there hn1 hw3);clear hn1 hw3)
    | (refine wpList_store_mid rfl 68 (.tmp 9) (.tmp 25) rfl n1 0 #[.int .i64 o0,.int .i64 o1,.int .i64 o2,.int .i64 o3,.int .i64 o4,.int .i64 o5,.int .i64 o6,.int .i64 o7,.int .i64 o8,.int .i64 o9,.slice po pm pc,.int .i64 o10] rfl rfl H3.out.1 (by kernel_rfl) (one_node ..) ?_
       generalize hW4:w3.setCells n1 0 (#[.int .i64 o0,.int .i64 o1,.int .i64 o2,.int .i64 o3,.int .i64 o4,.int .i64 o5,.int .i64 o6,.int .i64 o7,.int .i64 o8,.int .i64 o9,.slice po pm pc,.int .i64 o10]:Array Value).toList=W4
       have HB24:Hid (Below w2.heap.size w2 W4):=Lib.hid (by rw [← hW4];exact below_cells _ H3.out.2.2.1 _ _ _ H3.out.2.2.2)
       have HB14:Hid (Below W1.heap.size W1 W4):=Lib.hid (HB2.out.trans (HB24.out.mono HB2.out.size))
       have c0:=(HR1.out _ HB14.out).1 0 _ rfl
       have c1:=(HR1.out _ HB14.out).1 1 _ rfl
       have c2:=(HR1.out _ HB14.out).1 2 _ rfl
       have c3:=(HR1.out _ HB14.out).1 3 _ rfl
       simp only [Nat.zero_add] at c0 c1 c2 c3
       clear hW4)
    | (refine wpList_store_mid rfl 68 (.tmp 6) (.tmp 40) rfl w.heap.size 0 #[.int .i64 kk,.int .i64 1,.int .i64 ll,.int .i64 zz,.int .i64 0,.int .i64 0,.int .i64 0,.int .i64 0,.int .i64 0,.int .i64 0,.slice none 0 0,.int .i64 0] rfl rfl (HR1.out _ HB14.out).2 (by kernel_rfl) (one_node ..) ?_
       generalize hW5:W4.setCells w.heap.size 0 (#[.int .i64 kk,.int .i64 1,.int .i64 ll,.int .i64 zz,.int .i64 0,.int .i64 0,.int .i64 0,.int .i64 0,.int .i64 0,.int .i64 0,.slice none 0 0,.int .i64 0]:Array Value).toList=W5
       have HB5:Hid (Below w.heap.size w W5):=Lib.hid (by rw [← hW5];exact below_cells _ (Nat.le_refl _) _ _ _ (HB1.out.trans (HB14.out.mono HB1.out.size)))
       have HG5:Hid (Grew (fun k=>k=w.heap.size) (fun k=>k=w.heap.size) W4 W5):=Lib.hid (by rw [← hW5];exact Grew.setCells (fun k=>k=w.heap.size) rfl _ _ _)
       have HR5:Hid (W5.rangeAt w.heap.size 0 [.int .i64 kk,.int .i64 1,.int .i64 ll,.int .i64 zz,.int .i64 0,.int .i64 0,.int .i64 0,.int .i64 0,.int .i64 0,.int .i64 0,.slice none 0 0,.int .i64 0]):=Lib.hid (by rw [← hW5];exact World.rangeAt_setCells_same _ _ _ _ (HR1.out _ HB14.out).2)
       have HT5x:Hid (W5.there w.heap.size 0 12):=Lib.hid (by rw [← hW5];exact World.there_setCells (HR1.out _ HB14.out).2 _ _ _)
       have HIA5:Hid (IArg W5 ha had.length hc had):=Lib.hid ((HVH.out.later HB24.out).grew HG5.out (fun k e=>by rw [e];exact HL1.out)).iarg
       have HIO5:Hid (IArg W5 oo 0 oc []):=Lib.hid ((HVO.out.later HB24.out).grew HG5.out (fun k e=>by rw [e];exact HL1.out)).iarg
       clear hW5 c0 c1 c2 c3)
    | (refine wpList_load_mid rfl 68 (.tmp 6) rfl w.heap.size 0 rfl [.int .i64 kk,.int .i64 1,.int .i64 ll,.int .i64 zz,.int .i64 0,.int .i64 0,.int .i64 0,.int .i64 0,.int .i64 0,.int .i64 0,.slice none 0 0,.int .i64 0] _ HR5.out Tryz.underlying68 rfl (by kernel_rfl) ?_)
    | (go_at_call 64
       obtain ⟨O,hO,cE⟩:=HEN.out W5
       refine cE.mono ?_
       rintro e w6 ⟨v6,rfl,hf6,hb6⟩
       have HB6:=Lib.hid hb6
       clear hO cE hf6 hb6))
  have HW6:Hid (Below w.heap.size w w6):=Lib.hid (HB5.out.trans (HB6.out.mono HB5.out.size))
  have HL5:Hid (w.heap.size < W5.heap.size):=Lib.hid (World.block_lt_of_cell? _ _ (HR5.out 0 _ rfl))
  have HT5:Hid (W5.there w.heap.size 0 12):=Lib.hid HT5x.out
  have HR6:Hid (∀ W,Below w6.heap.size w6 W→W.rangeAt w.heap.size 0 [.int .i64 kk,.int .i64 1,.int .i64 ll,.int .i64 zz,.int .i64 0,.int .i64 0,.int .i64 0,.int .i64 0,.int .i64 0,.int .i64 0,.slice none 0 0,.int .i64 0]):=Lib.hid (fun W hW j v hj=>cell_later hW (cell_later HB6.out (HR5.out j v hj)))
  refine wp_region_held_drew (S:=fun W=>W.rangeAt w.heap.size 0 [.int .i64 kk,.int .i64 1,.int .i64 ll,.int .i64 zz,.int .i64 0,.int .i64 0,.int .i64 0,.int .i64 0,.int .i64 0,.int .i64 0,.slice none 0 0,.int .i64 0]) (by kernel_rfl) (HR6.out _ (Below.refl _ _).drew) (fun hHeld=>?_)
  refine wpAnyH_take (i:=0) (oi:=⟨some 48,_,_,_,_,_⟩) (v:=.pointer (some ⟨p,0,none⟩)) rfl (by kernel_rfl) (by kernel_rfl) (by kernel_rfl) (fun _ _ _ h=>h) (Or.inl ⟨by kernel_rfl,fun w _=>rfl⟩) (by assumption) ?_
  try simp only [Act.put,List.setIfInBounds_toArray,List.set_cons_zero,List.set_cons_succ]
  refine wpAnyH_take (i:=1) (oi:=⟨some 49,_,_,_,_,_⟩) (v:=.pointer (some ⟨p,0,none⟩)) rfl (by kernel_rfl) (by kernel_rfl) (by kernel_rfl) (fun _ _ _ h=>h) (Or.inl ⟨by kernel_rfl,by intro w _;go_simp;(try omega)⟩) (by assumption) ?_
  try simp only [Act.put,List.setIfInBounds_toArray,List.set_cons_zero,List.set_cons_succ]
  refine wpAnyH_take (i:=2) (oi:=⟨some 50,_,_,_,_,_⟩) (v:=.pointer (some ⟨p,0,none⟩)) rfl (by kernel_rfl) (by kernel_rfl) (by kernel_rfl) (fun _ _ _ h=>h) (Or.inl ⟨by kernel_rfl,by intro w _;go_simp;(try omega)⟩) (by assumption) ?_
  try simp only [Act.put,List.setIfInBounds_toArray,List.set_cons_zero,List.set_cons_succ]
  refine wpAnyH_take (i:=3) (oi:={ dst:=some 51,op:=.load 68 (.tmp 6),type:=68,pos := "image.go:102",after:=#[],guard:=none }) rfl (by kernel_rfl) (by kernel_rfl) (by kernel_rfl) (fun _ _ _ h=>h) (yieldsIf_load_mid (by rfl) _ _ rfl _ _ rfl _ _ (fun W h=>h) Tryz.underlying68 rfl (by kernel_rfl)) (by assumption) ?_
  try simp only [Act.put,List.setIfInBounds_toArray,List.set_cons_zero,List.set_cons_succ]
  refine wpAnyH_take (i:=4) (oi:=⟨some 52,_,_,_,_,_⟩) (v:=.slice lo m lc) rfl (by kernel_rfl) (by kernel_rfl) (by kernel_rfl) (fun _ _ _ h=>h) (Or.inl ⟨by kernel_rfl,fun w _=>rfl⟩) (by assumption) ?_
  try simp only [Act.put,List.setIfInBounds_toArray,List.set_cons_zero,List.set_cons_succ]
  refine wpAnyH_ready (rs:=[5]) (by kernel_rfl) (by simp) ?_
  refine AllReadyH.cons (o:=⟨some 53,_,_,_,_,_⟩) rfl (fun K hK=>?_) AllReadyH.nil
  go_simp
  go_at_call 65
  refine (HMY.out _ HW6.out.drew).mono ?_
  rintro e w8 ⟨rfl,hb⟩
  have HB8:Hid (Below w6.heap.size w6 w8):=Lib.hid ((Below.refl _ _).drew.trans hb)
  clear hb
  refine hK.out _ _ ?_ (fun hHeld1=>?_)
  · exact (HR6.out _ HB8.out)
  clear hK K
  try simp only [Act.put,List.setIfInBounds_toArray,List.set_cons_zero,List.set_cons_succ]
  refine wpAnyH_take (i:=6) (oi:=⟨some 54,_,_,_,_,_⟩) (v:=.bool false) rfl (by kernel_rfl) (by kernel_rfl) (by kernel_rfl) (fun _ _ _ h=>h) (Or.inl ⟨by kernel_rfl,by intro w _;go_simp;(try omega)⟩) (by assumption) ?_
  try simp only [Act.put,List.setIfInBounds_toArray,List.set_cons_zero,List.set_cons_succ]
  refine wpAnyH_done (by kernel_rfl) ?_ _
  have HW8:Hid (Below w.heap.size w w8):=Lib.hid (HW6.out.trans (HB8.out.mono HW6.out.size))
  have HB58:Hid (Below W5.heap.size W5 w8):=Lib.hid (HB6.out.trans (HB8.out.mono HB6.out.size))
  go_wp2_with (first
    | (go_at_call 31;refine (HFL.out _ HW8.out).mono ?_;rintro e w' ⟨rfl,rfl⟩)
    | (go_at_call 34;first
      | ((refine (HM1.out w8 ha hc oo oc HW8.out (HIA5.out.later HB58.out) (HIO5.out.later HB58.out)).mono ?_)
         rintro e w10 ⟨v10,rfl,hf10,hb10⟩
         clear HM1
         obtain ⟨g10,o10,k10,rfl,hA10,_⟩:=fresh_slice hf10 H160.out.2
         rw [H160.out.1] at hA10 ⊢
         have HA10:=Lib.hid hA10
         have HB810:Hid (Below w8.heap.size w8 w10):=Lib.hid (below_new hb10)
         have HW10:Hid (Below w.heap.size w w10):=Lib.hid (HW8.out.trans (HB810.out.mono HW8.out.size))
         clear hf10 hb10 hA10)
      | ((refine (HM2.out w10 g10 o10 k10 HW10.out HA10.out).mono ?_)
         rintro e w11 ⟨v11,rfl,hf11,hb11⟩
         obtain ⟨g11,o11,k11,rfl,hA11,hg11⟩:=fresh_slice hf11 H260.out.2
         have HG11:Hid (w10.heap.size < g11):=Lib.hid (by simp at hg11;omega)
         rw [H260.out.1] at hA11 ⊢
         have HA11:=Lib.hid hA11
         have HB1011:Hid (Below w10.heap.size w10 w11):=Lib.hid (below_new hb11)
         have HW11:Hid (Below w.heap.size w w11):=Lib.hid (HW10.out.trans (HB1011.out.mono HW10.out.size))
         clear hf11 hb11 hA11 hg11)))
  have HB511:Hid (Below W5.heap.size W5 w11):=Lib.hid (HB58.out.trans ((HB810.out.trans (HB1011.out.mono HB810.out.size)).mono HB58.out.size))
  have HIO11:Hid (IArg w11 oo 0 oc []):=Lib.hid (HIO5.out.later HB511.out)
  have H1C:Hid (∀ W,Below w11.heap.size w11 W→W.cell? ⟨w.heap.size,1,none⟩=some (.int .i64 1)):=Lib.hid (fun W hW=>cell_later hW (cell_later HB511.out (by have:=HR5.out 1 _ rfl;simpa using this)))
  refine wp_region_held_drew (S:=fun W=>W.cell? ⟨w.heap.size,1,none⟩=some (.int .i64 1)) (by kernel_rfl) (H1C.out _ (Below.refl _ _).drew) (fun hHeld=>?_)
  refine wpAnyH_take (i:=0) (oi:=⟨some 67,_,_,_,_,_⟩) (v:=.slice (some ⟨g11,o11,none⟩) 60 k11) rfl (by kernel_rfl) (by kernel_rfl) (by kernel_rfl) (fun _ _ _ h=>h) (Or.inl ⟨by kernel_rfl,fun w _=>rfl⟩) (by assumption) ?_
  try simp only [Act.put,List.setIfInBounds_toArray,List.set_cons_zero,List.set_cons_succ]
  refine wpAnyH_take (i:=1) (oi:=⟨some 68,_,_,_,_,_⟩) (v:=.slice oo 0 oc) rfl (by kernel_rfl) (by kernel_rfl) (by kernel_rfl) (fun _ _ _ h=>h) (Or.inl ⟨by kernel_rfl,fun w _=>rfl⟩) (by assumption) ?_
  try simp only [Act.put,List.setIfInBounds_toArray,List.set_cons_zero,List.set_cons_succ]
  refine wpAnyH_take (i:=2) (oi:=⟨some 69,_,_,_,_,_⟩) (v:=.pointer (some ⟨w.heap.size,1,none⟩)) rfl (by kernel_rfl) (by kernel_rfl) (by kernel_rfl) (fun _ _ _ h=>h) (Or.inl ⟨by kernel_rfl,by intro w _;go_simp;(try omega)⟩) (by assumption) ?_
  try simp only [Act.put,List.setIfInBounds_toArray,List.set_cons_zero,List.set_cons_succ]
  refine wpAnyH_take (i:=3) (oi:=⟨some 70,_,_,_,_,_⟩) (v:=.int .i64 1) rfl (by kernel_rfl) (by kernel_rfl) (by kernel_rfl) (fun _ _ _ h=>h) (Or.inl ⟨by kernel_rfl,by intro w hSw;(try dsimp only at hSw);go_simp⟩) (by assumption) ?_
  try simp only [Act.put,List.setIfInBounds_toArray,List.set_cons_zero,List.set_cons_succ]
  refine wpAnyH_take (i:=4) (oi:=⟨some 71,_,_,_,_,_⟩) (v:=.slice lo m lc) rfl (by kernel_rfl) (by kernel_rfl) (by kernel_rfl) (fun _ _ _ h=>h) (Or.inl ⟨by kernel_rfl,fun w _=>rfl⟩) (by assumption) ?_
  try simp only [Act.put,List.setIfInBounds_toArray,List.set_cons_zero,List.set_cons_succ]
  refine wpAnyH_take (i:=6) (oi:=⟨some 73,_,_,_,_,_⟩) (v:=.pointer (some ⟨p,0,none⟩)) rfl (by kernel_rfl) (by kernel_rfl) (by kernel_rfl) (fun _ _ _ h=>h) (Or.inl ⟨by kernel_rfl,fun w _=>rfl⟩) (by assumption) ?_
  try simp only [Act.put,List.setIfInBounds_toArray,List.set_cons_zero,List.set_cons_succ]
  refine wpAnyH_take (i:=7) (oi:=⟨some 74,_,_,_,_,_⟩) (v:=.pointer (some ⟨p,0,none⟩)) rfl (by kernel_rfl) (by kernel_rfl) (by kernel_rfl) (fun _ _ _ h=>h) (Or.inl ⟨by kernel_rfl,by intro w _;go_simp;(try omega)⟩) (by assumption) ?_
  try simp only [Act.put,List.setIfInBounds_toArray,List.set_cons_zero,List.set_cons_succ]
  refine wpAnyH_take (i:=8) (oi:=⟨some 75,_,_,_,_,_⟩) (v:=.pointer (some ⟨p,0,none⟩)) rfl (by kernel_rfl) (by kernel_rfl) (by kernel_rfl) (fun _ _ _ h=>h) (Or.inl ⟨by kernel_rfl,by intro w _;go_simp;(try omega)⟩) (by assumption) ?_
  try simp only [Act.put,List.setIfInBounds_toArray,List.set_cons_zero,List.set_cons_succ]
  refine wpAnyH_ready (rs:=[5]) (by kernel_rfl) (by simp) ?_
  refine AllReadyH.cons (o:=⟨some 72,_,_,_,_,_⟩) rfl (fun K hK=>?_) AllReadyH.nil
  go_simp
  go_at_call 67
  refine (HND.out _ HW11.out.drew).mono ?_
  rintro e w12 ⟨rfl,hb⟩
  have HB12:Hid (Below w11.heap.size w11 w12):=Lib.hid ((Below.refl _ _).drew.trans hb)
  clear hb
  refine hK.out _ _ ?_ (fun hHeld1=>?_)
  · exact (H1C.out _ HB12.out)
  clear hK K
  try simp only [Act.put,List.setIfInBounds_toArray,List.set_cons_zero,List.set_cons_succ]
  refine wpAnyH_ready (rs:=[9]) (by kernel_rfl) (by simp) ?_
  refine AllReadyH.cons (o:=⟨some 76,_,_,_,_,_⟩) rfl (fun K hK=>?_) AllReadyH.nil
  go_simp
  go_at_call 32
  refine (HEE.out _ (HW11.out.trans (HB12.out.mono HW11.out.size))).mono ?_
  rintro e w13 ⟨rfl,hb⟩
  have HB13:Hid (Below w11.heap.size w11 w13):=Lib.hid (HB12.out.trans (hb.mono HB12.out.size))
  clear hb
  refine hK.out _ _ ?_ (fun hHeld2=>?_)
  · exact (H1C.out _ HB13.out)
  clear hK K
  try simp only [Act.put,List.setIfInBounds_toArray,List.set_cons_zero,List.set_cons_succ]
  refine wpAnyH_ready (rs:=[10]) (by kernel_rfl) (by simp) ?_
  refine AllReadyH.cons (o:=⟨some 77,_,_,_,_,_⟩) rfl (fun K hK=>?_) AllReadyH.nil
  go_simp
  go_at_call 66
  refine (HCH.out w13 g11 o11 k11 oo oc (HA11.out.later HB13.out) (HIO11.out.later HB13.out)).mono ?_
  rintro e w14 ⟨va,vc,rfl,hva,hb⟩
  have HVA:=Lib.hid hva
  have HB14:Hid (Below w11.heap.size w11 w14):=Lib.hid (HB13.out.trans (hb.mono HB13.out.size))
  clear hb hva
  refine hK.out _ _ ?_ (fun hHeld3=>?_)
  · exact (H1C.out _ HB14.out)
  clear hK K
  try simp only [Act.put,List.setIfInBounds_toArray,List.set_cons_zero,List.set_cons_succ]
  refine wpAnyH_take (i:=11) (oi:=⟨some 66,_,_,_,_,_⟩) (v:=.tuple #[.slice va 0 vc,.int .i64 0]) rfl (by kernel_rfl) (by kernel_rfl) (by kernel_rfl) (fun _ _ _ h=>h) (Or.inl ⟨by kernel_rfl,fun w _=>rfl⟩) (by assumption) ?_
  try simp only [Act.put,List.setIfInBounds_toArray,List.set_cons_zero,List.set_cons_succ]
  refine wpAnyH_take (i:=12) (oi:=⟨some 78,_,_,_,_,_⟩) (v:=.slice va 0 vc) rfl (by kernel_rfl) (by kernel_rfl) (by kernel_rfl) (fun _ _ _ h=>h) (Or.inl ⟨by kernel_rfl,by intro w _;go_simp;(try omega)⟩) (by assumption) ?_
  try simp only [Act.put,List.setIfInBounds_toArray,List.set_cons_zero,List.set_cons_succ]
  refine wpAnyH_take (i:=13) (oi:=⟨some 79,_,_,_,_,_⟩) (v:=.int .i64 0) rfl (by kernel_rfl) (by kernel_rfl) (by kernel_rfl) (fun _ _ _ h=>h) (Or.inl ⟨by kernel_rfl,by intro w _;go_simp;(try omega)⟩) (by assumption) ?_
  try simp only [Act.put,List.setIfInBounds_toArray,List.set_cons_zero,List.set_cons_succ]
  refine wpAnyH_take (i:=14) (oi:=⟨some 16,_,_,_,_,_⟩) (v:=.slice va 0 vc) rfl (by kernel_rfl) (by kernel_rfl) (by kernel_rfl) (fun _ _ _ h=>h) (Or.inl ⟨by kernel_rfl,fun w _=>rfl⟩) (by assumption) ?_
  try simp only [Act.put,List.setIfInBounds_toArray,List.set_cons_zero,List.set_cons_succ]
  refine wpAnyH_take (i:=15) (oi:=⟨some 12,_,_,_,_,_⟩) (v:=.int .i64 0) rfl (by kernel_rfl) (by kernel_rfl) (by kernel_rfl) (fun _ _ _ h=>h) (Or.inl ⟨by kernel_rfl,fun w _=>rfl⟩) (by assumption) ?_
  try simp only [Act.put,List.setIfInBounds_toArray,List.set_cons_zero,List.set_cons_succ]
  refine wpAnyH_done (by kernel_rfl) ?_ _
  have c1:=H1C.out _ HB14.out
  have HW14:Hid (Below w.heap.size w w14):=Lib.hid (HW11.out.trans (HB14.out.mono HW11.out.size))
  have HB514:Hid (Below W5.heap.size W5 w14):=Lib.hid (HB511.out.trans (HB14.out.mono HB511.out.size))
  have HPX:=Lib.hid (HPL.out w14 va vc HW14.out HVA.out)
  unfold PlanNone nodeV nodeCs at HPX
  unfold fewN PNode.val at HSN
  dsimp only at HSN
  obtain ⟨d0,hd0⟩:∃ d,l.getD 0 0=d:=⟨_,rfl⟩
  obtain ⟨d1,hd1⟩:∃ d,l.getD 1 0=d:=⟨_,rfl⟩
  obtain ⟨d2,hd2⟩:∃ d,l.getD 2 0=d:=⟨_,rfl⟩
  obtain ⟨d3,hd3⟩:∃ d,l.getD 3 0=d:=⟨_,rfl⟩
  obtain ⟨sg,hsg⟩:∃ d,singleP l []=d:=⟨_,rfl⟩
  obtain ⟨db,hdb⟩:∃ d,doubleP l []=d:=⟨_,rfl⟩
  rw [hd0,hd1,hd2,hd3,hsg,hdb] at HPX HSN
  have HFN:Hid (fewN kk ll zz l=⟨kk,1,ll,zz,d0,d1,d2,d3,sg,db,[],0⟩):=Lib.hid (by unfold fewN;rw [hd0,hd1,hd2,hd3,hsg,hdb])
  clear hd0 hd1 hd2 hd3 hsg hdb
  go_wp2_with (first
    | (go_at_call 68;refine HPX.out.mono ?_;rintro e w15 ⟨ro,rc,rfl,hb⟩;have HB15:=Lib.hid hb;clear hb c1)
    | (refine wp_new_node rfl rfl (some 17) rfl ?_;intro n17 w16 hn17 hw16;have H16:=Lib.hid (node_there hn17 hw16);clear hn17 hw16)
    | (refine wpList_store_mid rfl 68 (.tmp 17) (.tmp 89) rfl n17 0 #[.int .i64 0,.int .i64 1,.int .i64 0,.int .i64 0,.int .i64 d0,.int .i64 d1,.int .i64 d2,.int .i64 d3,.int .i64 sg,.int .i64 db,.slice none 0 0,.int .i64 0] rfl rfl H16.out.1 (by kernel_rfl) (one_node ..) ?_
       generalize hW17:w16.setCells n17 0 (#[.int .i64 0,.int .i64 1,.int .i64 0,.int .i64 0,.int .i64 d0,.int .i64 d1,.int .i64 d2,.int .i64 d3,.int .i64 sg,.int .i64 db,.slice none 0 0,.int .i64 0]:Array Value).toList=W17
       have HB17:Hid (Below w15.heap.size w15 W17):=Lib.hid (by rw [← hW17];exact below_cells _ H16.out.2.2.1 _ _ _ H16.out.2.2.2)
       have HR17:Hid (W17.rangeAt n17 0 [.int .i64 0,.int .i64 1,.int .i64 0,.int .i64 0,.int .i64 d0,.int .i64 d1,.int .i64 d2,.int .i64 d3,.int .i64 sg,.int .i64 db,.slice none 0 0,.int .i64 0]):=Lib.hid (by rw [← hW17];exact World.rangeAt_setCells_same _ _ _ _ H16.out.1)
       have HT17:Hid (W17.there n17 0 12):=Lib.hid (by rw [← hW17];exact World.there_setCells H16.out.1 _ _ _)
       clear hW17))
  have HB517:Hid (Below W5.heap.size W5 W17):=Lib.hid (HB514.out.trans ((HB15.out.trans (HB17.out.mono HB15.out.size)).mono HB514.out.size))
  have c0:=cell_later HB517.out (HR5.out 0 _ rfl)
  have c2:=cell_later HB517.out (HR5.out 2 _ rfl)
  have c3:=cell_later HB517.out (HR5.out 3 _ rfl)
  have x0:=HR17.out 0 _ rfl
  have x2:=HR17.out 2 _ rfl
  have x3:=HR17.out 3 _ rfl
  simp only [Nat.zero_add] at c0 c2 c3 x0 x2 x3
  have y0':=(HT17.out 0 (by decide)).2
  have y2':=(HT17.out 2 (by decide)).2
  have y3':=(HT17.out 3 (by decide)).2
  simp only [Nat.zero_add] at y0' y2' y3'
  have hne:n17≠w.heap.size:=by have:=H16.out.2.2.1;have:=HW14.out.size;have:=HB15.out.size;have:=HL5.out;have:=HB514.out.size;omega
  go_region
  obtain ⟨W18,hW18⟩:∃ W18,(((W17.setCell ⟨n17,0,none⟩ (.int .i64 kk)).setCell ⟨n17,2,none⟩ (.int .i64 ll)).setCell ⟨n17,3,none⟩ (.int .i64 zz)).drew=W18:=⟨_,rfl⟩
  have HB18:Hid (Below w15.heap.size w15 W18):=Lib.hid (by rw [← hW18];exact (((HB17.out.setCell H16.out.2.2.1 _).setCell H16.out.2.2.1 _).setCell H16.out.2.2.1 _).drew)
  have HW18:Hid (Below w.heap.size w W18):=Lib.hid (HW14.out.trans ((HB15.out.trans (HB18.out.mono HB15.out.size)).mono HW14.out.size))
  have HX18:Hid (∀ W,Below W18.heap.size W18 W→W.rangeAt n17 0 [.int .i64 kk,.int .i64 1,.int .i64 ll,.int .i64 zz,.int .i64 d0,.int .i64 d1,.int .i64 d2,.int .i64 d3,.int .i64 sg,.int .i64 db,.slice none 0 0,.int .i64 0]):=Lib.hid (fun W hW=>range_later2 hW (by
    rw [← hW18]
    exact few_row HR17.out))
  have HLN:Hid (n17 < W18.heap.size):=Lib.hid (World.block_lt_of_cell? _ _ (HX18.out W18 (Below.refl _ _) 0 _ rfl))
  have HNG:Hid (n17≠gb):=Lib.hid (by have:=H16.out.2.2.1;have:=HW14.out.size;have:=HB15.out.size;omega)
  have HX19:Hid (∀ W,Grew (fun k=>k=gb) (fun k=>k=gb) W18 W→W.rangeAt n17 0 [.int .i64 kk,.int .i64 1,.int .i64 ll,.int .i64 zz,.int .i64 d0,.int .i64 d1,.int .i64 d2,.int .i64 d3,.int .i64 sg,.int .i64 db,.slice none 0 0,.int .i64 0]):=Lib.hid (fun W hG j v hj=>by
    rw [cell_of_heap (p:=⟨n17,0+j,none⟩) (hG.block HLN.out HNG.out)]
    exact HX18.out W18 (Below.refl _ _) j v hj)
  rw [hW18]
  clear hW18 c0 c2 c3 x0 x2 x3 y0' y2' y3' hne
  go_wp2_with fail
  refine wp_region_held_drew (S:=fun W=>W.rangeAt n17 0 [.int .i64 kk,.int .i64 1,.int .i64 ll,.int .i64 zz,.int .i64 d0,.int .i64 d1,.int .i64 d2,.int .i64 d3,.int .i64 sg,.int .i64 db,.slice none 0 0,.int .i64 0]) (by kernel_rfl) (HX18.out _ (Below.refl _ _).drew) (fun hHeld=>?_)
  refine wpAnyH_take (i:=0) (oi:=⟨some 100,_,_,_,_,_⟩) (v:=.pointer (some ⟨p,0,none⟩)) rfl (by kernel_rfl) (by kernel_rfl) (by kernel_rfl) (fun _ _ _ h=>h) (Or.inl ⟨by kernel_rfl,fun w _=>rfl⟩) (by assumption) ?_
  try simp only [Act.put,List.setIfInBounds_toArray,List.set_cons_zero,List.set_cons_succ]
  refine wpAnyH_take (i:=1) (oi:=⟨some 101,_,_,_,_,_⟩) (v:=.pointer (some ⟨p,0,none⟩)) rfl (by kernel_rfl) (by kernel_rfl) (by kernel_rfl) (fun _ _ _ h=>h) (Or.inl ⟨by kernel_rfl,by intro w _;go_simp;(try omega)⟩) (by assumption) ?_
  try simp only [Act.put,List.setIfInBounds_toArray,List.set_cons_zero,List.set_cons_succ]
  refine wpAnyH_take (i:=2) (oi:=⟨some 102,_,_,_,_,_⟩) (v:=.pointer (some ⟨p,0,none⟩)) rfl (by kernel_rfl) (by kernel_rfl) (by kernel_rfl) (fun _ _ _ h=>h) (Or.inl ⟨by kernel_rfl,by intro w _;go_simp;(try omega)⟩) (by assumption) ?_
  try simp only [Act.put,List.setIfInBounds_toArray,List.set_cons_zero,List.set_cons_succ]
  refine wpAnyH_take (i:=3) (oi:=⟨some 103,_,_,_,_,_⟩) (v:=.int .i64 k) rfl (by kernel_rfl) (by kernel_rfl) (by kernel_rfl) (fun _ _ _ h=>h) (Or.inl ⟨by kernel_rfl,fun w _=>rfl⟩) (by assumption) ?_
  try simp only [Act.put,List.setIfInBounds_toArray,List.set_cons_zero,List.set_cons_succ]
  refine wpAnyH_take (i:=4) (oi:={ dst:=some 104,op:=.load 68 (.tmp 17),type:=68,pos := "image.go:113",after:=#[],guard:=none }) rfl (by kernel_rfl) (by kernel_rfl) (by kernel_rfl) (fun _ _ _ h=>h) (yieldsIf_load_mid (by rfl) _ _ rfl _ _ rfl _ _ (fun W h=>h) Tryz.underlying68 rfl (by kernel_rfl)) (by assumption) ?_
  try simp only [Act.put,List.setIfInBounds_toArray,List.set_cons_zero,List.set_cons_succ]
  refine wpAnyH_ready (rs:=[5]) (by kernel_rfl) (by simp) ?_
  refine AllReadyH.cons (o:=⟨some 105,_,_,_,_,_⟩) rfl (fun K hK=>?_) AllReadyH.nil
  go_simp
  go_at_call 63
  refine (HSN.out _ HW18.out.drew).mono ?_
  rintro e w19 ⟨rfl,hr,hg⟩
  have HR19:=Lib.hid hr
  have HG19:Hid (Grew (fun k=>k=gb) (fun k=>k=gb) W18 w19):=Lib.hid ((Grew.drew _ _).trans hg)
  clear hr hg
  refine hK.out _ _ ?_ (fun hHeld1=>?_)
  · exact (HX19.out _ HG19.out)
  clear hK K
  try simp only [Act.put,List.setIfInBounds_toArray,List.set_cons_zero,List.set_cons_succ]
  refine wpAnyH_done (by kernel_rfl) ?_ _
  have HB1118:Hid (Below w11.heap.size w11 W18):=Lib.hid (HB14.out.trans ((HB15.out.trans (HB18.out.mono HB15.out.size)).mono HB14.out.size))
  have HA19:Hid (Arg w19 (some ⟨g11,o11,none⟩) 60 k11 f2):=Lib.hid (arg_grew (HA11.out.later HB1118.out) HG19.out (by have:=HG11.out;have:=HW10.out.size;omega))
  have HP19:Hid (w19.cell? ⟨p,0,none⟩=some (.slice (some ⟨gb,0,none⟩) I.bl.length cb)∧p < w19.heap.size):=Lib.hid (by
    have hp18:p < W18.heap.size:=Nat.lt_of_lt_of_le hp HW18.out.size
    refine ⟨?_,Nat.lt_of_lt_of_le hp18 HG19.out.size⟩
    rw [cell_of_heap (p:=⟨p,0,none⟩) (HG19.out.block hp18 HI.out.d1),HW18.out.cell (p:=⟨p,0,none⟩) hp]
    exact HI.out.c0)
  have HGB19:Hid (gb < w19.heap.size):=Lib.hid (Nat.lt_of_lt_of_le hgb (Nat.le_trans HW18.out.size HG19.out.size))
  have HM3:Hid (∀ W q,Arg W (some ⟨g11,o11,none⟩) 60 k11 f2→W.cell? ⟨q,0,none⟩=some (.slice va 0 vc)→Calls Tryz.prog 34 #[.slice (some ⟨g11,o11,none⟩) 60 k11,.bool true,.slice (some ⟨q,0,none⟩) 1 1] W (Gives W.heap.size W f2)):=Lib.hid (fun W q ha hc=>by
    have hx:=imark_any _ k11 f2 true q 0 1 1 [[]] W ha rfl (fun j zs hj=>by
      match j,hj with
      | 0,hj=>cases Option.some.inj hj;exact ⟨va,0,vc,hc,iarg0 (fun e=>(HVA.out.2.2.1 e).2)⟩
      | j+1,hj=>simp at hj) (by decide) (by decide) (by intro x hx;simp at hx)
    rw [show ([[]]:List (List Int)).flatten=[] from rfl,markL_nil true ha.1.1 ha.1.2.2.1] at hx
    exact hx)
  go_wp2_with fail
  go_loopw [108] (fun iv wr=>iv=.int .i64 0∧Hid (w19=wr)) (fun _ _=>0)
  case atStart=>exact ⟨rfl,Lib.hid rfl⟩
  case round=>
      obtain ⟨rfl,HWE⟩:=hrel
      obtain rfl:=HWE.out
      go_wp2_with fail
      refine wp_region_held_drew (S:=fun _=>True) (by kernel_rfl) True.intro (fun hHeld=>?_)
      refine wpAnyH_take (i:=0) (oi:=⟨some 121,_,_,_,_,_⟩) (v:=.pointer (some ⟨p,0,none⟩)) rfl (by kernel_rfl) (by kernel_rfl) (by kernel_rfl) (fun _ _ _ h=>h) (Or.inl ⟨by kernel_rfl,fun w _=>rfl⟩) (by assumption) ?_
      try simp only [Act.put,List.setIfInBounds_toArray,List.set_cons_zero,List.set_cons_succ]
      refine wpAnyH_take (i:=1) (oi:=⟨some 122,_,_,_,_,_⟩) (v:=.pointer (some ⟨p,0,none⟩)) rfl (by kernel_rfl) (by kernel_rfl) (by kernel_rfl) (fun _ _ _ h=>h) (Or.inl ⟨by kernel_rfl,by intro w _;go_simp;(try omega)⟩) (by assumption) ?_
      try simp only [Act.put,List.setIfInBounds_toArray,List.set_cons_zero,List.set_cons_succ]
      refine wpAnyH_take (i:=2) (oi:=⟨some 123,_,_,_,_,_⟩) (v:=.pointer (some ⟨p,0,none⟩)) rfl (by kernel_rfl) (by kernel_rfl) (by kernel_rfl) (fun _ _ _ h=>h) (Or.inl ⟨by kernel_rfl,by intro w _;go_simp;(try omega)⟩) (by assumption) ?_
      try simp only [Act.put,List.setIfInBounds_toArray,List.set_cons_zero,List.set_cons_succ]
      refine wpAnyH_take (i:=3) (oi:=⟨some 124,_,_,_,_,_⟩) (v:=.slice (some ⟨g11,o11,none⟩) 60 k11) rfl (by kernel_rfl) (by kernel_rfl) (by kernel_rfl) (fun _ _ _ h=>h) (Or.inl ⟨by kernel_rfl,fun w _=>rfl⟩) (by assumption) ?_
      try simp only [Act.put,List.setIfInBounds_toArray,List.set_cons_zero,List.set_cons_succ]
      refine wpAnyH_take (i:=4) (oi:=⟨some 125,_,_,_,_,_⟩) (v:=.slice va 0 vc) rfl (by kernel_rfl) (by kernel_rfl) (by kernel_rfl) (fun _ _ _ h=>h) (Or.inl ⟨by kernel_rfl,fun w _=>rfl⟩) (by assumption) ?_
      try simp only [Act.put,List.setIfInBounds_toArray,List.set_cons_zero,List.set_cons_succ]
      refine wpAnyH_ready (rs:=[5]) (by kernel_rfl) (by simp) ?_
      refine AllReadyH.cons (o:=⟨some 126,_,_,_,_,_⟩) rfl (fun K hK=>?_) AllReadyH.nil
      go_simp
      obtain ⟨W20,hW20⟩:∃ W20,(w19.alloc (.cells #[.slice va 0 vc] 31)).drew=W20:=⟨_,rfl⟩
      have HB20:Hid (Below w19.heap.size w19 W20):=Lib.hid (by rw [← hW20];exact ((Below.refl _ _).alloc (Nat.le_refl _) _).drew)
      have HM20:=Lib.hid (HM3.out W20 w19.heap.size (HA19.out.later HB20.out) (by rw [← hW20];show (w19.alloc _).cell? _=_;simp))
      rw [hW20]
      clear hW20
      refine hK.out _ _ ?_ (fun hHeld1=>?_)
      · exact True.intro
      clear hK K
      try simp only [Act.put,List.setIfInBounds_toArray,List.set_cons_zero,List.set_cons_succ]
      refine wpAnyH_ready (rs:=[6]) (by kernel_rfl) (by simp) ?_
      refine AllReadyH.cons (o:=⟨some 127,_,_,_,_,_⟩) rfl (fun K hK=>?_) AllReadyH.nil
      go_simp
      go_at_call 34
      refine HM20.out.mono ?_
      rintro e w21 ⟨v21,rfl,hf21,hb21⟩
      obtain ⟨g21,o21,k21,rfl,hA21,_⟩:=fresh_slice hf21 H260.out.2
      rw [H260.out.1] at hA21 ⊢
      have HA21:=Lib.hid hA21
      have HB21:Hid (Below w19.heap.size w19 w21):=Lib.hid (HB20.out.trans (hb21.mono HB20.out.size))
      clear hf21 hb21 hA21
      refine hK.out _ _ ?_ (fun hHeld2=>?_)
      · exact True.intro
      clear hK K
      try simp only [Act.put,List.setIfInBounds_toArray,List.set_cons_zero,List.set_cons_succ]
      refine wpAnyH_ready (rs:=[7]) (by kernel_rfl) (by simp) ?_
      refine AllReadyH.cons (o:=⟨some 128,_,_,_,_,_⟩) rfl (fun K hK=>?_) AllReadyH.nil
      go_simp
      go_at_call 33
      refine (setFlags_any (n:=I.bl.length) (cap:=cb) (by rw [HB21.out.cell (p:=⟨p,0,none⟩) HP19.out.2];exact HP19.out.1) (HR19.out.kept (HB21.out.block gb HGB19.out)) (withNode_length _ _ _) h2n HA21.out).mono ?_
      rintro e w22 ⟨rfl,hr22,hg22⟩
      have HR22:=Lib.hid hr22
      have HG22:=Lib.hid hg22
      clear hr22 hg22
      refine hK.out _ _ ?_ (fun hHeld3=>?_)
      · exact True.intro
      clear hK K
      try simp only [Act.put,List.setIfInBounds_toArray,List.set_cons_zero,List.set_cons_succ]
      refine wpAnyH_done (by kernel_rfl) ?_ _
      go_wp2_with fail
      go_ret
      have g1:Grew (fun k=>k=gb) (fun k=>k=gb) w w22:=(((Grew.of_below HW18.out).trans HG19.out).trans (Grew.of_below HB21.out)).trans HG22.out
      refine ⟨rfl,HI.out.setBl (L:=withFlags (withNode I.bl k (fewN kk ll zz l)) (fewF I.bl had l)) (by rw [HF2.out,HFN.out];exact HR22.out) (by rw [withFlags_length,withNode_length]) g1,g1⟩
end Go.Proofs.YtcefmpnijjcekaaGreatDoor
namespace Go.Proofs.YtcefmpnijjcekaaGreatDoor
open Go.RowKit
/-! ### Plain: these four images -/
section
set_option maxRecDepth 100000
def img0:List (List Int):=emptyP 100 1
def three:List Int:=[59,60,61]
def img1:List (List Int):=withFlags img0 (markL (flagsAt img0) true three)
def img2:List (List Int):=withFlags (withNode img1 4 (fewN 1 1 150 three)) (fewF img1 [] three)
theorem vol0:VolOk img0:=⟨by decide +kernel,by decide +kernel,by decide +kernel,by decide +kernel,by decide +kernel,by decide +kernel⟩
theorem take0:takeE img0 3=0∧takeL img0 3=three:=⟨by decide +kernel,by decide +kernel⟩
theorem take0B:takeB img0 3=img1:=by
  unfold takeB img1
  rw [if_pos take0.1,take0.2]
theorem vol1:VolOk img1:=⟨by decide +kernel,by decide +kernel,by decide +kernel,by decide +kernel,by decide +kernel,by decide +kernel⟩
theorem vol2:VolOk img2:=⟨by decide +kernel,by decide +kernel,by decide +kernel,by decide +kernel,by decide +kernel,by decide +kernel⟩
theorem node1:Reads img1 (nodeAt img1 4) [] []:=Or.inl ⟨by decide +kernel,rfl,rfl⟩
theorem node2_is:nodeAt img2 4=⟨1,1,1,150,59,60,61,0,0,0,[],0⟩:=by kernel_rfl
theorem node2:Reads img2 (nodeAt img2 4) three []:=by
  rw [node2_is]
  exact Or.inr ⟨rfl,List.replicate 30 0,0,0,0,List.replicate 30 0,List.replicate 30 0,List.replicate 30 0,by decide +kernel,by decide +kernel,by decide +kernel,by decide +kernel,by decide +kernel,by decide +kernel,by decide +kernel,by decide +kernel,by decide +kernel⟩
theorem free2:freeB img2=38:=by decide +kernel
theorem len1:img1.length=100:=by decide +kernel
theorem len2:img2.length=100:=by decide +kernel
theorem bare0:(bareN 1 1 150).sound=true∧(bareN 1 1 150).small:=by
  refine ⟨by decide +kernel,?_⟩
  unfold PNode.small bareN
  unfold u16
  exact ⟨by decide,by decide,by decide,by decide,by decide,by decide,by decide,by decide,by decide,by decide,by decide,fun x hx=>by cases hx⟩
theorem few0:(fewN 1 1 150 three).sound=true∧(fewN 1 1 150 three).small:=by
  refine ⟨by decide +kernel,?_⟩
  rw [show fewN 1 1 150 three=⟨1,1,1,150,59,60,61,0,0,0,[],0⟩ by kernel_rfl]
  unfold PNode.small
  unfold u16
  exact ⟨by decide,by decide,by decide,by decide,by decide,by decide,by decide,by decide,by decide,by decide,by decide,fun x hx=>by cases hx⟩
theorem three_ok:ptrsOk three=true∧three.all (hereB img1.length)=true∧needP three=0∧writesP three []=[]:=by
  rw [len1]
  exact ⟨by decide +kernel,by decide +kernel,by decide +kernel,by decide +kernel⟩
end
theorem store_i {w:World} {a:Addr} {F:Nat→Prop} {I:Img} (k:Nat) (hk:k < 32) {had:List Int} {kk ll zz y0 y1 y2 y3 y4 y5 y6:Int} {xo lo:Option Addr} {xm xc m lc:Nat} {l:List Int} (h:ImgI w a F I) (hV:VolOk I.bl) (hrd:Reads I.bl (nodeAt I.bl k) had []) (hh:had.all (hereB I.bl.length)=true)
    (hb:(bareN kk ll zz).sound=true∧(bareN kk ll zz).small) (hkk:kk≠0) (hA:IArg w lo m lc l) (hok:ptrsOk l=true) (hlh:l.all (hereB I.bl.length)=true) (hn0:needP l=0) (hw0:writesP l []=[]) (hX:(fewN kk ll zz l).sound=true∧(fewN kk ll zz l).small) :
    Calls Tryz.prog 27 #[.pointer (some a),.int .i64 k,.agg #[.int .i64 kk,.int .i64 1,.int .i64 ll,.int .i64 zz,.int .i64 y0,.int .i64 y1,.int .i64 y2,.int .i64 y3,.int .i64 y4,.int .i64 y5,.slice xo xm xc,.int .i64 y6],.slice lo m lc] w fun e w'=>e=.returned (.int .i64 0)∧ImgI w' a F { I with bl:=withFlags (withNode I.bl k (fewN kk ll zz l)) (fewF I.bl had l) }∧Grew F F w w':=by
  obtain ⟨p,gb,gl,gs,cb,cl,cs,rfl,h,rfl⟩:=h
  refine (store_few k hk h hV hrd hh hb hkk hA hok hlh hn0 hw0 hX).mono ?_
  rintro e w' ⟨rfl,hI,hg⟩
  refine ⟨rfl,⟨p,gb,gl,gs,cb,cl,cs,rfl,hI,rfl⟩,hg.1,hg.2.1,hg.2.2.1,hg.2.2.2.1,fun j hj hF=>hg.2.2.2.2.1 j hj (fun e=>hF (Or.inr (Or.inl e))),fun j hj=>Or.inl hj⟩
theorem take_i {w:World} {a:Addr} {F:Nat→Prop} {I:Img} (n:Nat) (hn:n≤9223372036854775807) (h:ImgI w a F I) (hV:VolOk I.bl) :
    Calls Tryz.prog 8 #[.pointer (some a),.int .i64 n] w (TakeDone w a F I n):=by
  obtain ⟨p,gb,gl,gs,cb,cl,cs,rfl,h,rfl⟩:=h
  exact takes_at n hn h hV
set_option maxRecDepth 100000 in
set_option maxHeartbeats 1600000 in
theorem awake17_any (w:World):Calls Tryz.prog 7 #[] w fun e w'=>e=.returned (.bool true)∧Below w.heap.size w w':=by
  have HM:Hid (∀ W,Calls Tryz.prog 26 #[.int .i64 100,.int .i64 1] W fun e w'=>∃ a F',e=.returned (.tuple #[.pointer (some a),.int .i64 0])∧ImgI w' a F' ⟨img0,img0,img0⟩∧(∀ k,F' k→W.heap.size≤k)∧Below W.heap.size W w'):=Lib.hid (fun W=>makes_ok 100 1 W (by decide) (by decide) (by decide))
  have HT:Hid (∀ W a F,ImgI W a F ⟨img0,img0,img0⟩→Calls Tryz.prog 8 #[.pointer (some a),.int .i64 3] W fun e w'=>∃ ao lc,e=.returned (.tuple #[.slice ao 3 lc,.int .i64 0])∧IArg w' ao 3 lc three∧ImgI w' a F ⟨img1,img0,img0⟩∧Grew F F W w'):=Lib.hid (fun W a F h=>by
    refine (take_i 3 (by decide) h vol0).mono ?_
    rintro e w' ⟨v,rfl,hv,hI,hg⟩
    rw [take0B] at hI
    rw [take0.2] at hv
    rw [take0.1]
    obtain ⟨ao,lc,rfl,hA,_⟩:=hv
    exact ⟨ao,lc,rfl,hA,hI,hg⟩)
  have HS:Hid (∀ W a F lo lc,ImgI W a F ⟨img1,img0,img0⟩→IArg W lo 3 lc three→Calls Tryz.prog 27 #[.pointer (some a),.int .i64 4,.agg #[.int .i64 1,.int .i64 1,.int .i64 1,.int .i64 150,.int .i64 0,.int .i64 0,.int .i64 0,.int .i64 0,.int .i64 0,.int .i64 0,.slice none 0 0,.int .i64 0],.slice lo 3 lc] W fun e w'=>e=.returned (.int .i64 0)∧ImgI w' a F ⟨img2,img0,img0⟩∧Grew F F W w'):=Lib.hid (fun W a F lo lc h hA=>
    store_i (I:=⟨img1,img0,img0⟩) 4 (by decide) h vol1 node1 rfl bare0 (by decide) hA three_ok.1 three_ok.2.1 three_ok.2.2.1 three_ok.2.2.2 few0)
  have HN:Hid (∀ W a F,ImgI W a F ⟨img2,img0,img0⟩→Calls Tryz.prog 28 #[.pointer (some a),.int .i64 4] W fun e w'=>∃ xo m xc ao lc u,e=.returned (.tuple #[.agg #[.int .i64 1,.int .i64 1,.int .i64 1,.int .i64 150,.int .i64 59,.int .i64 60,.int .i64 61,.int .i64 0,.int .i64 0,.int .i64 0,.slice xo m xc,.int .i64 0],.slice ao 3 lc,u,.int .i64 0])∧Below W.heap.size W w'):=Lib.hid (fun W a F h=>by
    refine (inode_any 4 (by decide) h vol2 node2 (by rw [len2];decide)).mono ?_
    rw [node2_is]
    rintro e w' ⟨xo,m,xc,v,u,rfl,_,_,⟨ao,lc,rfl,_⟩,_,hb⟩
    exact ⟨xo,m,xc,ao,lc,u,rfl,hb⟩)
  have HF:Hid (∀ W a F,ImgI W a F ⟨img2,img0,img0⟩→Calls Tryz.prog 12 #[.pointer (some a)] W fun e w'=>e=.returned (.int .i64 38)∧Below W.heap.size W w'):=Lib.hid (fun W a F h=>by
    have c:=free_any h vol2
    rw [free2] at c
    exact c)
  go_enter Tryz.func7,Tryz.ntmps7
  go_wp2_with (first
    | (go_at_call 26;refine (HM.out _).mono ?_;rintro e w1 ⟨a,F,rfl,hI,hF,hb⟩;have H1:=Lib.hid (And.intro hI (And.intro hF hb));clear hI hF hb HM)
    | (go_at_call 8;refine (HT.out _ _ _ H1.out.1).mono ?_;rintro e w2 ⟨ao,lc,rfl,hA,hI,hg⟩;have H2:=Lib.hid (And.intro hI (And.intro hA hg));clear hA hI hg HT)
    | (go_at_call 27;refine (HS.out _ _ _ _ _ H2.out.1 H2.out.2.1).mono ?_;rintro e w3 ⟨rfl,hI,hg⟩;have H3:=Lib.hid (And.intro hI (H2.out.2.2.trans hg));clear hI hg HS)
    | (go_at_call 28;refine (HN.out _ _ _ H3.out.1).mono ?_;rintro e w4 ⟨xo,xm,xc,po,pc,u,rfl,hb⟩;have H4:=Lib.hid hb;clear hb HN)
    | (go_at_call 12;refine (HF.out _ _ _ (H3.out.1.later (H4.out.alloc H4.out.size _))).mono ?_;rintro e w5 ⟨rfl,hb⟩;have H5:=Lib.hid ((H4.out.alloc H4.out.size _).trans (hb.mono (H4.out.alloc H4.out.size _).size));clear hb HF))
  go_ret
  have hb3:Below w.heap.size w w3:=H3.out.2.below H1.out.2.2 H1.out.2.2.size H1.out.2.1
  exact ⟨rfl,hb3.trans (H5.out.mono hb3.size)⟩
end Go.Proofs.YtcefmpnijjcekaaGreatDoor
namespace Go.Proofs.YtcefmpnijjcekaaGreatDoor
theorem gets_set {α:Type} (B:List α) (i j:Nat) (v d:α):(B.set i v).getD j d=if i=j∧i < B.length then v else B.getD j d:=by
  simp only [List.getD_eq_getElem?_getD,List.getElem?_set]
  by_cases h:i=j
  · subst h
    by_cases h2:i < B.length
    · simp [h2]
    · simp [h2]
  · simp [h]
def R64 (B:List (List Int)):Prop:=∀ j,j < B.length→(B.getD j []).length=64
theorem R64.set {B:List (List Int)} (h:R64 B) (i:Nat) {v:List Int} (hv:v.length=64):R64 (B.set i v):=fun j hj=>by
  rw [List.length_set] at hj
  rw [gets_set]
  split
  · exact hv
  · exact h j hj
theorem R64.replicate (n:Nat):R64 (List.replicate n z64):=fun j hj=>by
  rw [List.length_replicate] at hj
  simp [List.getD_eq_getElem?_getD,List.getElem?_replicate,hj,z64]
theorem R64.withFlags {B:List (List Int)} (h:R64 B) (f:List Int):R64 (withFlags B f):=h.set 2 (sealAny_length _ _)
/-! ### What is set is read -/
theorem half_set {B:List (List Int)} {i:Nat} {v:List Int} (hi:i < 3) (k:Nat):halfAt (B.set i v) k=halfAt B k:=by
  unfold halfAt
  rw [gets_set,if_neg (fun e=>by omega)]
theorem half_withFlags (B:List (List Int)) (f:List Int) (k:Nat):halfAt (withFlags B f) k=halfAt B k:=half_set (by decide) k
theorem seal_take {f:List Int} (hf:f.length=60):(sealOf sumS f).take 60=f:=by
  unfold sealOf
  simp [hf,List.take_of_length_le (show f.length≤60 by omega),List.take_append_of_le_length (show 60≤f.length by omega)]
theorem flags_withFlags {B:List (List Int)} {f:List Int} (h:2 < B.length) (hf:f.length=60):flagsAt (withFlags B f)=f:=by
  unfold flagsAt withFlags
  rw [gets_set,if_pos ⟨rfl,h⟩,seal_take hf]
theorem sup_withFlags (B:List (List Int)) (f:List Int):supAt (withFlags B f)=supAt B:=by
  unfold supAt withFlags
  rw [gets_set,if_neg (fun e=>by omega)]
/-! ### A sound volume stays one -/
theorem sealed_seal {f:List Int} (hf:f.length=60):sealedB (sealOf sumS f)=true:=by
  unfold sealedB
  refine decide_eq_true ⟨sealAny_length _ _,sealed_of (by omega) (sealAny_length _ _) (fun k hk=>?_)⟩
  have h:=congrArg (fun l=>l.getD k 0) (seal_take hf)
  simp only [List.getD_eq_getElem?_getD,List.getElem?_take,hk,if_true] at h
  simpa [List.getD_eq_getElem?_getD] using h
theorem VolOk.withFlags {B:List (List Int)} (h:VolOk B) {f:List Int} (hf:f.length=60):VolOk (withFlags B f):=by
  refine ⟨by rw [withFlags_length];exact h.n64,?_,by rw [sup_withFlags,withFlags_length];exact h.siz,?_,?_,fun n hn=>by rw [half_withFlags];exact h.nodes n hn⟩
  · show isSup ((B.set 2 _).getD 0 [])=true
    rw [gets_set,if_neg (fun e=>by omega)]
    exact h.sup
  · show isHead ((B.set 2 _).getD 1 [])=true
    rw [gets_set,if_neg (fun e=>by omega)]
    exact h.head
  · show sealedB ((B.set 2 _).getD 2 [])=true
    rw [gets_set,if_pos ⟨rfl,by have:=h.n64;omega⟩]
    exact sealed_seal hf
/-! ### An empty volume -/
end Go.Proofs.YtcefmpnijjcekaaGreatDoor
namespace Go.Proofs.YtcefmpnijjcekaaGreatDoor
open Go.RowKit Go.ChangeShapes Go.WideShapes
def RowsIn (w:World) (a:Option Addr) (len cap:Nat) (Z:List (List Int)):Prop:=
  Z.length=len∧len≤cap∧(len=0∨∃ b off,a=some ⟨b,off,none⟩∧∀ j,j < len→∃ ad l c,w.cell? ⟨b,off+j,none⟩=some (.slice ad l c)∧Bts w ad l (Z.getD j [])∧l≤c)
theorem RowsIn.later {w wx:World} {a:Option Addr} {len cap:Nat} {Z:List (List Int)} (h:RowsIn w a len cap Z) (hb:Below w.heap.size w wx):RowsIn wx a len cap Z:=by
  obtain ⟨h1,h2,h3⟩:=h
  refine ⟨h1,h2,?_⟩
  rcases h3 with h3 | ⟨b,off,rfl,hc⟩
  · exact Or.inl h3
  · refine Or.inr ⟨b,off,rfl,fun j hj=>?_⟩
    obtain ⟨ad,l,c,h4,h5,h6⟩:=hc j hj
    exact ⟨ad,l,c,cell_later hb h4,h5.later hb,h6⟩
theorem open_rows {H:Type} {enc:TypeId × Value→H} {W:World} {a:Option Addr} {len cap:Nat} {d:DataW H} {p:List MemPlace}
    (h:DataW.Trod enc Tryz.prog W 0 (fun _=>true) true 22 (.slice a len cap) d p):∃ Z,RowsIn W a len cap Z:=by
  obtain ⟨fuel,hf⟩:=h
  rcases Go.Deep.open_int_rows Tryz.underlying22 Tryz.underlying44 Tryz.underlying5 (by kernel_rfl) (by kernel_rfl) hf with ⟨hcs,_⟩ | ⟨x,l,c,A,L,C,Z,hcs,_,hl,hm,_,hrows⟩
  · simp [Value.cells] at hcs
    obtain ⟨rfl,rfl,rfl⟩:=hcs
    exact ⟨[],rfl,Nat.le_refl _,Or.inl rfl⟩
  · simp [Value.cells] at hcs
    obtain ⟨rfl,rfl,rfl⟩:=hcs
    refine ⟨(List.range len).map fun r=>(Z r).take (L r),by simp,hl,?_⟩
    rcases Nat.eq_zero_or_pos len with h0 | h0
    · exact Or.inl h0
    · obtain ⟨b,off,spot⟩:=x
      have hspot:spot=none:=by simpa [Addr.add] using World.cell?_spot (hrows 0 (by omega)).1
      subst hspot
      refine Or.inr ⟨b,off,rfl,fun j hj=>?_⟩
      obtain ⟨h1,h2,h3,h4,h5,h6,h7⟩:=hrows j (by omega)
      rw [add_plain] at h1
      refine ⟨A j,L j,C j,h1,?_,h2⟩
      have hg:((List.range len).map fun r=>(Z r).take (L r)).getD j []=(Z j).take (L j):=by simp [List.getD,hj]
      rw [hg]
      refine ⟨by rw [List.length_take];omega,by unfold maxLen at h3;omega,fun z hz=>wf_u8 (h5 z (List.mem_of_mem_take hz)),?_⟩
      rcases Nat.eq_zero_or_pos (L j) with hz | hz
      · exact Or.inl hz
      · cases hA:A j with
        | none=>have:=h6 hA;omega
        | some a'=>
          obtain ⟨_,hcell⟩:=h7 a' hA
          obtain ⟨b',off',rfl,hc'⟩:=ints_at (zs:=Z j) (fun i hi=>hcell i (by omega)) (by omega)
          exact Or.inr ⟨b',off',rfl,fun i hi=>by rw [take_getD _ _ _ hi];exact hc' i (by omega)⟩
theorem RowsIn.at {w:World} {a:Option Addr} {len cap i:Nat} {Z:List (List Int)} (h:RowsIn w a len cap Z) (hi:i < len):∃ b off ad l c,a=some ⟨b,off,none⟩∧w.cell? ⟨b,off+i,none⟩=some (.slice ad l c)∧Bts w ad l (Z.getD i []):=by
  obtain ⟨h1,h2,h3⟩:=h
  obtain ⟨b,off,rfl,hc⟩:=h3.resolve_left (by omega)
  obtain ⟨ad,l,c,h4,h5,_⟩:=hc i hi
  exact ⟨b,off,ad,l,c,rfl,h4,h5⟩
theorem RowsIn.full {w:World} {a:Option Addr} {len cap i:Nat} {Z:List (List Int)} (h:RowsIn w a len cap Z) (hi:i < len) (h64:(Z.getD i []).length=64):∃ b off ad c,a=some ⟨b,off,none⟩∧w.cell? ⟨b,off+i,none⟩=some (.slice (some ad) (64:Nat) c)∧Arg w (some ad) 64 c (Z.getD i []):=by
  obtain ⟨h1,h2,h3⟩:=h
  obtain ⟨b,off,rfl,hc⟩:=h3.resolve_left (by omega)
  obtain ⟨ad,l,c,h4,h5,h6⟩:=hc i hi
  have hl:l=64:=by rw [← h5.1,h64]
  subst hl
  obtain ⟨b',o',rfl,_⟩:=h5.2.2.2.resolve_left (by decide)
  exact ⟨b,off,_,c,rfl,h4,h5,(fun e=>by cases e),h6,by decide⟩
end Go.Proofs.YtcefmpnijjcekaaGreatDoor
namespace Go.Proofs.YtcefmpnijjcekaaGreatDoor
open Go.RowKit
theorem elemBs:ElemR 22 44 (.slice none 0 0) 1 24:=⟨Tryz.underlying22,by kernel_rfl,rfl,by decide,by decide⟩
def BOwn (base lo:Nat) (w:World) (v:Value) (bs:List (List Int)):Prop:=
  ∃ xs,w.ownsRow base 44 1 v bs.length xs∧∀ (j:Nat) (zs:List Int),bs[j]?=some zs→∃ db off cap,xs[j]?=some (.slice (some ⟨db,off,none⟩) 64 cap)∧(lo≤db∧db < w.heap.size)∧v.ownBlock≠some db∧Arg w (some ⟨db,off,none⟩) 64 cap zs
theorem BOwn.snoc {base lo:Nat} {wr wx w4:World} {v v':Value} {bs:List (List Int)} {zs:List Int} {xs:List Value} {db off cap:Nat} {ob:Obj}
    (h1:wr.ownsRow base 44 1 v bs.length xs) (h2:∀ (j:Nat) (zs:List Int),bs[j]?=some zs→∃ db off cap,xs[j]?=some (.slice (some ⟨db,off,none⟩) 64 cap)∧(lo≤db∧db < wr.heap.size)∧v.ownBlock≠some db∧Arg wr (some ⟨db,off,none⟩) 64 cap zs)
    (hb:Below wr.heap.size wr wx) (hd:lo≤db∧db < wx.heap.size) (hne:v.ownBlock≠some db) (hA:Arg wx (some ⟨db,off,none⟩) 64 cap zs)
    (hown:w4.ownsRow base 44 1 v' (bs.length+1) (xs ++ [.slice (some ⟨db,off,none⟩) 64 cap])) (hg:(wx.alloc ob).grownBy w4 v.ownBlock) (hv:v'.ownBlock=v.ownBlock∨v'.ownBlock=some (wx.alloc ob).heap.size):BOwn base lo w4 v' (bs ++ [zs]):=by
  have hxl:xs.length=bs.length:=by have:=h1.1;omega
  have hsz:wr.heap.size≤wx.heap.size:=hb.size
  have hsz4:(wx.alloc ob).heap.size≤w4.heap.size:=hg.size
  rw [World.size_alloc] at hsz4
  have hal:∀ {d o l c:Nat} {y:List Int},Arg wx (some ⟨d,o,none⟩) l c y→Arg (wx.alloc ob) (some ⟨d,o,none⟩) l c y:=fun h=>h.later ((Below.refl _ _).alloc (Nat.le_refl _) _)
  have hnew:∀ k,k < wx.heap.size→v.ownBlock≠some k→v'.ownBlock≠some k:=fun k hk hn=>by
    rcases hv with e | e
    · rw [e];exact hn
    · rw [e,World.size_alloc]
      intro h
      simp at h
      omega
  refine ⟨_,by rw [List.length_append];exact hown,fun j ys hj=>?_⟩
  by_cases hjl:j < bs.length
  · rw [List.getElem?_append_left hjl] at hj
    obtain ⟨d,o,c,c1,c2,c3,c4⟩:=h2 j ys hj
    exact ⟨d,o,c,by rw [List.getElem?_append_left (by omega)];exact c1,⟨c2.1,by omega⟩,hnew d (by omega) c3,arg_grown (hal (c4.later hb)) hg c3⟩
  · have hj0:j=bs.length:=by
      have:=(List.getElem?_eq_some_iff.1 hj).1
      simp at this
      omega
    subst hj0
    rw [List.getElem?_append_right (Nat.le_refl _),Nat.sub_self] at hj
    simp at hj
    subst hj
    exact ⟨db,off,cap,by rw [List.getElem?_append_right (by omega),hxl,Nat.sub_self];rfl,⟨hd.1,by omega⟩,hnew db hd.2 hne,arg_grown (hal hA) hg hne⟩
theorem BOwn.one {lo:Nat} {w:World} {zs:List Int} {db off cap:Nat} (hd:lo≤db∧db < w.heap.size) (hA:Arg w (some ⟨db,off,none⟩) 64 cap zs) :
    BOwn w.heap.size lo (w.alloc (.cells #[.slice (some ⟨db,off,none⟩) 64 cap] 44)) (.slice (some ⟨w.heap.size,0,none⟩) 1 1) [zs]:=by
  have ho:(w.alloc (.cells #[.slice (some ⟨db,off,none⟩) 64 cap] 44)).ownsRow w.heap.size 44 1 (.slice (some ⟨w.heap.size,0,none⟩) 1 1) 1 [.slice (some ⟨db,off,none⟩) 64 cap]:=
    ⟨rfl,Or.inr ⟨w.heap.size,1,_,rfl,Nat.le_refl _,heap_alloc_new w _,Nat.le_refl _,by decide,rfl,rfl⟩⟩
  refine ⟨_,ho,fun j ys hj=>?_⟩
  match j,hj with
  | 0,hj=>
    cases hj
    refine ⟨db,off,cap,rfl,⟨hd.1,by simp;omega⟩,?_,hA.later ((Below.refl _ _).alloc (Nat.le_refl _) _)⟩
    intro h
    simp [Value.ownBlock] at h
    omega
  | j+1,hj=>simp at hj
theorem BOwn.form {base lo:Nat} {w:World} {v:Value} {bs:List (List Int)} (h:BOwn base lo w v bs) (hn:0 < bs.length):∃ g cap,v=.slice (some ⟨g,0,none⟩) bs.length cap∧bs.length≤cap∧(base≤g∧g < w.heap.size)∧(∀ j,w.frozen? ⟨g,j,none⟩=false)∧
    ∀ (j:Nat) (zs:List Int),bs[j]?=some zs→∃ db off c,w.cell? ⟨g,j,none⟩=some (.slice (some ⟨db,off,none⟩) 64 c)∧(lo≤db∧db≠g)∧Arg w (some ⟨db,off,none⟩) 64 c zs:=by
  obtain ⟨xs,ho,hx⟩:=h
  rcases ho.2 with ⟨_,h0⟩ | ⟨g,cap,cur,hv,hb,hh,hc,_⟩
  · omega
  · have hlt:=ho.lt g (by rw [hv];rfl)
    rw [hv] at ho
    refine ⟨g,cap,hv,hc,hlt,fun j=>ho.frozenAt j,fun j zs hj=>?_⟩
    obtain ⟨d,o,c,c1,c2,c3,c4⟩:=hx j zs hj
    have e:=ho.cells (g:=g) rfl _ _ c1
    rw [Go.WideShapes.add_plain,Nat.zero_add] at e
    exact ⟨d,o,c,e,⟨c2.1,fun e=>c3 (by rw [hv,e];rfl)⟩,c4⟩
theorem arg_lt {w:World} {db off cap:Nat} {zs:List Int} (h:Arg w (some ⟨db,off,none⟩) 64 cap zs):db < w.heap.size:=by
  obtain ⟨b',o',he,hc⟩:=h.1.2.2.2.resolve_left (by decide)
  simp only [Option.some.injEq,Addr.mk.injEq,and_true] at he
  obtain ⟨rfl,rfl⟩:=he
  exact World.block_lt_of_cell? _ _ (hc 0 (by decide))
theorem BOwn.rows {base lo:Nat} {w:World} {v:Value} {bs:List (List Int)} (h:BOwn base lo w v bs) (hn:0 < bs.length):∃ g cap,v=.slice (some ⟨g,0,none⟩) bs.length cap∧bs.length≤cap∧(base≤g∧g < w.heap.size)∧∀ k m,k+m≤bs.length→RowsIn w (some ⟨g,k,none⟩) m (cap - k) ((bs.drop k).take m):=by
  obtain ⟨g,cap,hv,hc,hg,_,hx⟩:=h.form hn
  refine ⟨g,cap,hv,hc,hg,fun k m hkm=>⟨by rw [List.length_take,List.length_drop];omega,by omega,Or.inr ⟨g,k,rfl,fun j hj=>?_⟩⟩⟩
  obtain ⟨d,o,c,c1,_,c3⟩:=hx (k+j) (bs[k+j]'(by omega)) (List.getElem?_eq_getElem (by omega))
  refine ⟨_,64,c,c1,?_,c3.2.2.1⟩
  have e:((bs.drop k).take m).getD j []=bs[k+j]'(by omega):=by
    rw [List.getD_eq_getElem?_getD,List.getElem?_take,if_pos hj,List.getElem?_drop,List.getElem?_eq_getElem (by omega)];rfl
  rw [e]
  exact c3.1
end Go.Proofs.YtcefmpnijjcekaaGreatDoor
