/- Proved here: what the landed image's data and read answer, and its Node of what can be read. The conditions stand at each theorem. Proved here: what slices.IndexFunc and ContainsFunc say of the landed image's absent. The conditions stand at each theorem. Proved here: what the landed image's Node answers of what can be read. The conditions stand at each theorem. Proved here: .. -/
import Derived.Test.YtcefmpnijjcekaaGreatDoorTk8
import Derived.Test.YtcefmpnijjcekaaGreatDoorTk15
import Derived.Test.YtcefmpnijjcekaaGreatDoorTk12
import Derived.Test.YtcefmpnijjcekaaGreatDoorTk4
import Derived.Laws.ResultCell
import Derived.Deep.QuietTactic
import Derived.BigQuiet
import Derived.WalkSmall
set_option linter.unusedVariables false
set_option linter.unusedSimpArgs false
namespace Go.Proofs.YtcefmpnijjcekaaGreatDoor
open Go.RowKit
def dataW (B:List (List Int)):Nat→List (Int × List Int)
  | 0=>[]
  | i+1=>if i < 59 then [] else dataW B i ++ [((i:Int),B.getD i [])]
def dataC (g:Nat):Nat→List Value
  | 0=>[]
  | i+1=>if i < 59 then [] else dataC g i ++ [.int .i64 (i:Int),.slice (some ⟨g,i * 64,none⟩) 64 64]
theorem dataW_small (B:List (List Int)) {i:Nat} (h:i≤59):dataW B i=[]:=by
  cases i with
  | zero=>rfl
  | succ i=>unfold dataW;rw [if_pos (by omega)]
theorem dataC_small (g:Nat) {i:Nat} (h:i≤59):dataC g i=[]:=by
  cases i with
  | zero=>rfl
  | succ i=>unfold dataC;rw [if_pos (by omega)]
theorem dataW_succ (B:List (List Int)) {i:Nat} (h:59≤i):dataW B (i+1)=dataW B i ++ [((i:Int),B.getD i [])]:=by
  show (if i < 59 then _ else _)=_
  rw [if_neg (by omega)]
theorem dataC_succ (g:Nat) {i:Nat} (h:59≤i):dataC g (i+1)=dataC g i ++ [.int .i64 (i:Int),.slice (some ⟨g,i * 64,none⟩) 64 64]:=by
  show (if i < 59 then _ else _)=_
  rw [if_neg (by omega)]
theorem dataW_length (B:List (List Int)):∀ i,(dataW B i).length=i - 59
  | 0=>rfl
  | i+1=>by
    by_cases h:i < 59
    · rw [dataW_small B (by omega)];simp;omega
    · rw [dataW_succ B (by omega),List.length_append,dataW_length B i];simp;omega
theorem dataC_length (g:Nat):∀ i,(dataC g i).length=(i - 59) * 2
  | 0=>rfl
  | i+1=>by
    by_cases h:i < 59
    · rw [dataC_small g (by omega)];simp;omega
    · rw [dataC_succ g (by omega),List.length_append,dataC_length g i];simp;omega
theorem dataW_get (B:List (List Int)):∀ (i j:Nat) (a:Int) (zs:List Int),(dataW B i)[j]?=some (a,zs)→j+59 < i∧a=((j+59:Nat):Int)∧zs=B.getD (j+59) []
  | 0,j,a,zs,h=>by simp [dataW] at h
  | i+1,j,a,zs,h=>by
    by_cases hs:i < 59
    · rw [dataW_small B (by omega)] at h;simp at h
    · rw [dataW_succ B (by omega)] at h
      by_cases hj:j < (dataW B i).length
      · rw [List.getElem?_append_left hj] at h
        obtain ⟨h1,h2,h3⟩:=dataW_get B i j a zs h
        exact ⟨by omega,h2,h3⟩
      · have hl:=dataW_length B i
        have hj2:=(List.getElem?_eq_some_iff.1 h).1
        rw [List.length_append] at hj2
        simp at hj2
        have e:j=i - 59:=by omega
        rw [List.getElem?_append_right (by omega),show j - (dataW B i).length=0 by omega] at h
        simp at h
        obtain ⟨rfl,rfl⟩:=h
        have e2:j+59=i:=by omega
        rw [e2]
        exact ⟨by omega,rfl,rfl⟩
theorem dataC_get (g:Nat):∀ (i j:Nat),j+59 < i→(dataC g i)[j * 2]?=some (.int .i64 ((j+59:Nat):Int))∧(dataC g i)[j * 2+1]?=some (.slice (some ⟨g,(j+59) * 64,none⟩) 64 64)
  | 0,j,h=>by omega
  | i+1,j,h=>by
    rw [dataC_succ g (by omega)]
    have hl:=dataC_length g i
    by_cases hj:j+59 < i
    · obtain ⟨h1,h2⟩:=dataC_get g i j hj
      exact ⟨by rw [List.getElem?_append_left (by omega)];exact h1,by rw [List.getElem?_append_left (by omega)];exact h2⟩
    · have e:j+59=i:=by omega
      rw [e]
      exact ⟨by rw [List.getElem?_append_right (by omega),show j * 2 - (dataC g i).length=0 by omega];rfl,by rw [List.getElem?_append_right (by omega),show j * 2+1 - (dataC g i).length=1 by omega];rfl⟩
set_option maxRecDepth 100000 in
set_option maxHeartbeats 1600000 in
theorem data_any {w:World} {p q g n cap:Nat} {L:List (List Int)} (hp:w.cell? ⟨p,q,none⟩=some (.slice (some ⟨g,0,none⟩) n cap)) (hR:Rw w g L) (hn:L.length=n) (h0:59 < n) (h1:n≤480) :
    Calls Tryz.prog 116 #[.pointer (some ⟨p,q,none⟩)] w fun e w'=>∃ ao cap,e=.returned (.slice ao (n - 59) cap)∧WIs w' ao (n - 59) (dataW L n)∧(n - 59≤cap)∧Below w.heap.size w w':=by
  have hp0:=World.block_lt_of_cell? _ _ hp
  have HR:=Lib.hid hR
  have HN:=Lib.hid hn
  have HP:=Lib.hid hp
  clear hR hn hp
  go_enter Tryz.func116,Tryz.ntmps116
  go_wp2_with fail
  have HJ0:Hid (w.ownsRow w.heap.size 92 2 (.slice none 0 0) (59 - 59) (dataC g 59)∧Below w.heap.size w w):=Lib.hid ⟨owns_nil_r _ _ _ _,Below.refl _ _⟩
  go_loopw [3,4] (fun vv iv wr=>∃ i:Nat,59≤i∧i≤n∧iv=.int .i64 i∧Hid (wr.ownsRow w.heap.size 92 2 vv (i - 59) (dataC g i)∧Below w.heap.size w wr)) (fun _ iv _=>n - (intOf iv).toNat)
  case atStart=>exact ⟨59,Nat.le_refl _,by omega,rfl,HJ0⟩
  case round=>
    obtain ⟨i,hlo,hi,rfl,HJ⟩:=hrel
    have hc:=cell_later HJ.out.2 HP.out
    clear HJ0
    by_cases hlt:i < n
    · have i2:(i:Int) < n:=by omega
      have HO:=Lib.hid HJ.out.1
      have HW:=Lib.hid HJ.out.2
      have HS:Hid (w.heap.size≤wr.heap.size+1):=Lib.hid (by have:=HJ.out.2.size;omega)
      have HC:Hid (dataC g (i+1)=dataC g i ++ [.int .i64 (i:Int),.slice (some ⟨g,i * 64,none⟩) 64 64]):=Lib.hid (dataC_succ g hlo)
      clear HJ
      go_wp2_with (at_builtin;refine wp_append_r elemW rfl (.tmp 14) (.tmp 24) rfl w.heap.size (i - 59) _ _ rfl (HO.out.alloc _) ⟨wr.heap.size,0,none⟩ 1 _ [.int .i64 (i:Int),.slice (some ⟨g,i * 64,none⟩) 64 64] rfl rfl (news_r wr _ _) (by simp [Value.oneCell']) (by omega) (by simpa using HS.out) ?_;intro v1 w1 hown1 hg1 hb1;have HO1:=Lib.hid hown1;have HB1:=Lib.hid hb1;clear hown1 hg1 hb1)
      refine ⟨⟨i+1,by omega,by omega,by go_num,Lib.hid ⟨?_,(HW.out.alloc (by have:=HW.out.size;exact this) _).trans HB1.out⟩⟩,by simp [intOf];omega⟩
      have ho:=HO1.out
      rw [← HC.out,show i - 59+1=i+1 - 59 by omega] at ho
      exact ho
    · have hit:i=n:=by omega
      subst hit
      have ho:=HJ.out.1
      have hw:=HJ.out.2
      obtain ⟨ao,c,rfl⟩:=owns_shape_r ho
      have HWI:Hid (WIs wr ao (i - 59) (dataW L i)∧i - 59≤c):=Lib.hid (by
        rcases ho.2 with ⟨hv,h0'⟩ | ⟨b,cap',cur,hv,hb,hg,hc2,hm,hs,ht⟩
        · omega
        · simp only [Value.slice.injEq,true_and] at hv
          obtain ⟨rfl,rfl⟩:=hv
          refine ⟨⟨dataW_length L i,by omega,Or.inr ⟨b,0,rfl,fun j a zs hj=>?_⟩⟩,hc2⟩
          obtain ⟨h2,rfl,rfl⟩:=dataW_get L i j a zs hj
          obtain ⟨c1,c2⟩:=dataC_get g i j h2
          have q1:=ho.cells (g:=b) rfl _ _ c1
          have q2:=ho.cells (g:=b) rfl _ _ c2
          rw [Go.WideShapes.add_plain] at q1 q2
          exact ⟨q1,⟨by omega,by omega⟩,_,64,64,q2,(HR.out.later (by rw [HN.out];omega) hw).whole (by rw [HN.out];exact h2) (by decide)⟩)
      have HW:=Lib.hid hw
      clear ho hw HJ
      go_wp2_with fail
      go_ret
      exact ⟨_,_,rfl,HWI.out.1,HWI.out.2,HW.out⟩
def ReadOld (ws:List (Int × List Int)) (x:PNode) (ps os:List Int):Prop:=
  x.f=1∧∃ sg q0 q1 q2 u0 u1 u2,pageAt ws x.s=some sg∧pageAt ws x.t=some ([q0,q1,q2] ++ List.replicate 27 0)∧pageAt ws q0=some u0∧pageAt ws q1=some u1∧pageAt ws q2=some u2∧
    trimL ([x.d0,x.d1,x.d2,x.d3] ++ (sg ++ (u0 ++ (u1 ++ u2))))=ps∧nzL [x.s,x.t,q0,q1,q2]=os∧ps.length≤96∧apartL (ps ++ os)=true
def ReadFree (x:PNode) (ps os:List Int):Prop:=x.f=0∧ps=[]∧os=[]
theorem small_i64 {x:PNode} (h:x.small):(∀ z ∈ [x.d0,x.d1,x.d2,x.d3],I64 z)∧I64 x.s∧I64 x.t:=by
  obtain ⟨h1,h2,h3,h4,h5,h6,h7,h8,h9,h10,h11,h12⟩:=h
  unfold u16 at *
  refine ⟨fun z hz=>?_,⟨by omega,by omega⟩,⟨by omega,by omega⟩⟩
  simp only [List.mem_cons,List.mem_nil_iff,or_false] at hz
  unfold I64
  rcases hz with rfl | rfl | rfl | rfl <;> omega
def ReadDone (w:World) (ps os:List Int) (e:Ending) (w':World):Prop:=
  ∃ v u,e=.returned (.tuple #[v,u,.int .i64 0])∧FreshI w' w.heap.size v ps∧FreshI w' w.heap.size u os∧Below w.heap.size w w'
set_option maxRecDepth 100000 in
set_option maxHeartbeats 1600000 in
theorem read_old {w:World} {p q g n cap:Nat} {L:List (List Int)} (x:PNode) (xo:Option Addr) (xm xc:Nat) {ps os:List Int} (hp:w.cell? ⟨p,q,none⟩=some (.slice (some ⟨g,0,none⟩) n cap)) (hR:Rw w g L) (hn:L.length=n) (h0:59 < n) (h1:n≤480) (hs:x.small) (hrd:ReadOld (dataW L n) x ps os) :
    Calls Tryz.prog 70 #[.pointer (some ⟨p,q,none⟩),x.val (.slice xo xm xc)] w (ReadDone w ps os):=by
  have hp0:=World.block_lt_of_cell? _ _ hp
  have HD:Hid (∀ W,Below w.heap.size w W→Calls Tryz.prog 116 #[.pointer (some ⟨p,q,none⟩)] W fun e w'=>∃ ao cap,e=.returned (.slice ao (n - 59) cap)∧WIs w' ao (n - 59) (dataW L n)∧(n - 59≤cap)∧Below W.heap.size W w'):=Lib.hid (fun W hW=>data_any (by rw [hW.cell (p:=⟨p,q,none⟩) hp0];exact hp) (hR.later (by omega) hW) hn h0 h1)
  obtain ⟨hf,sg,q0,q1,q2,u0,u1,u2,e1,e2,e3,e4,e5,e6,e7,e8,e9⟩:=hrd
  have hi:=small_i64 hs
  obtain ⟨k,f,l,z,d0,d1,d2,d3,s,t,xx,c⟩:=x
  dsimp only at hf e1 e2 e6 e7 hi
  subst hf
  have HR:Hid (∀ W ao cp,WIs W ao (n - 59) (dataW L n)→Calls Tryz.prog 115 #[.agg #[.int .i64 k,.int .i64 1,.int .i64 l,.int .i64 z,.int .i64 d0,.int .i64 d1,.int .i64 d2,.int .i64 d3,.int .i64 s,.int .i64 t,.slice xo xm xc,.int .i64 c],.slice ao (n - 59) cp] W (ReadDone W ps os)):=Lib.hid (fun W ao cp hW=>
    Read_any (nk:=k) (nl:=l) (nz:=z) (ne:=c) (no:=xo) (nm:=xm) (nc:=xc) (cap:=cp) hW e1 e2 e3 e4 e5 hi e6 e7 e8 e9)
  clear hp hR hn e1 e2 e3 e4 e5 e6 e7 e8 e9 hi hs
  unfold PNode.val
  dsimp only
  have HROW:Hid (∀ W,Below (w.alloc (.cells #[.int .i64 k,.int .i64 1,.int .i64 l,.int .i64 z,.int .i64 d0,.int .i64 d1,.int .i64 d2,.int .i64 d3,.int .i64 s,.int .i64 t,.slice xo xm xc,.int .i64 c] 68)).heap.size (w.alloc (.cells #[.int .i64 k,.int .i64 1,.int .i64 l,.int .i64 z,.int .i64 d0,.int .i64 d1,.int .i64 d2,.int .i64 d3,.int .i64 s,.int .i64 t,.slice xo xm xc,.int .i64 c] 68)) W→W.rangeAt w.heap.size 0 [.int .i64 k,.int .i64 1,.int .i64 l,.int .i64 z,.int .i64 d0,.int .i64 d1,.int .i64 d2,.int .i64 d3,.int .i64 s,.int .i64 t,.slice xo xm xc,.int .i64 c]):=Lib.hid (fun W hW j v hj=>by
    rw [hW.cell (p:=⟨w.heap.size,0+j,none⟩) (by simp),Nat.zero_add,World.cell?_alloc_new]
    simpa using hj)
  have HB1:Hid (Below w.heap.size w (w.alloc (.cells #[.int .i64 k,.int .i64 1,.int .i64 l,.int .i64 z,.int .i64 d0,.int .i64 d1,.int .i64 d2,.int .i64 d3,.int .i64 s,.int .i64 t,.slice xo xm xc,.int .i64 c] 68))):=Lib.hid ((Below.refl _ _).alloc (Nat.le_refl _) _)
  go_enter Tryz.func70,Tryz.ntmps70
  go_wp2_with fail
  refine wp_region_held_drew (S:=fun W=>W.rangeAt w.heap.size 0 [.int .i64 k,.int .i64 1,.int .i64 l,.int .i64 z,.int .i64 d0,.int .i64 d1,.int .i64 d2,.int .i64 d3,.int .i64 s,.int .i64 t,.slice xo xm xc,.int .i64 c]) (by kernel_rfl) (HROW.out _ (Below.refl _ _).drew) (fun hHeld=>?_)
  refine wpAnyH_take (i:=0) (oi:={ dst:=some 14,op:=.load 68 (.tmp 3),type:=68,pos := "state.go:161",after:=#[],guard:=none }) rfl (by kernel_rfl) (by kernel_rfl) (by kernel_rfl) (fun _ _ _ h=>h) (yieldsIf_load_mid (by rfl) _ _ rfl _ _ rfl _ _ (fun W h=>h) Tryz.underlying68 rfl (by kernel_rfl)) (by assumption) ?_
  try simp only [Act.put,List.setIfInBounds_toArray,List.set_cons_zero,List.set_cons_succ]
  refine wpAnyH_take (i:=1) (oi:=⟨some 15,_,_,_,_,_⟩) (v:=.pointer (some ⟨p,q,none⟩)) rfl (by kernel_rfl) (by kernel_rfl) (by kernel_rfl) (fun _ _ _ h=>h) (Or.inl ⟨by kernel_rfl,fun w _=>rfl⟩) (by assumption) ?_
  try simp only [Act.put,List.setIfInBounds_toArray,List.set_cons_zero,List.set_cons_succ]
  refine wpAnyH_ready (rs:=[2]) (by kernel_rfl) (by simp) ?_
  refine AllReadyH.cons (o:=⟨some 16,_,_,_,_,_⟩) rfl (fun K hK=>?_) AllReadyH.nil
  go_simp
  go_at_call 116
  refine (HD.out _ HB1.out.drew).mono ?_
  rintro e w2 ⟨ao,cp,rfl,hW2,hc2,hb2⟩
  have HW2:=Lib.hid hW2
  have HB2:=Lib.hid ((Below.refl _ _).drew.trans hb2)
  clear hW2 hc2 hb2
  refine hK.out _ _ ?_ (fun hHeld1=>?_)
  · exact (HROW.out _ HB2.out)
  clear hK K
  try simp only [Act.put,List.setIfInBounds_toArray,List.set_cons_zero,List.set_cons_succ]
  refine wpAnyH_ready (rs:=[3]) (by kernel_rfl) (by simp) ?_
  refine AllReadyH.cons (o:=⟨some 17,_,_,_,_,_⟩) rfl (fun K hK=>?_) AllReadyH.nil
  go_simp
  go_at_call 115
  refine (HR.out _ ao cp HW2.out).mono ?_
  rintro e w3 ⟨v,u,rfl,hv,hu,hb3⟩
  have HB3:=Lib.hid (HB2.out.trans (hb3.mono HB2.out.size))
  have HV3:=Lib.hid (And.intro hv hu)
  clear hv hu hb3
  refine hK.out _ _ ?_ (fun hHeld2=>?_)
  · exact (HROW.out _ HB3.out)
  clear hK K
  try simp only [Act.put,List.setIfInBounds_toArray,List.set_cons_zero,List.set_cons_succ]
  refine wpAnyH_take (i:=4) (oi:=⟨some 18,_,_,_,_,_⟩) (v:=v) rfl (by kernel_rfl) (by kernel_rfl) (by kernel_rfl) (fun _ _ _ h=>h) (Or.inl ⟨by kernel_rfl,by intro w _;go_simp;(try omega)⟩) (by assumption) ?_
  try simp only [Act.put,List.setIfInBounds_toArray,List.set_cons_zero,List.set_cons_succ]
  refine wpAnyH_take (i:=5) (oi:=⟨some 19,_,_,_,_,_⟩) (v:=u) rfl (by kernel_rfl) (by kernel_rfl) (by kernel_rfl) (fun _ _ _ h=>h) (Or.inl ⟨by kernel_rfl,by intro w _;go_simp;(try omega)⟩) (by assumption) ?_
  try simp only [Act.put,List.setIfInBounds_toArray,List.set_cons_zero,List.set_cons_succ]
  refine wpAnyH_take (i:=6) (oi:=⟨some 20,_,_,_,_,_⟩) (v:=.int .i64 0) rfl (by kernel_rfl) (by kernel_rfl) (by kernel_rfl) (fun _ _ _ h=>h) (Or.inl ⟨by kernel_rfl,by intro w _;go_simp;(try omega)⟩) (by assumption) ?_
  try simp only [Act.put,List.setIfInBounds_toArray,List.set_cons_zero,List.set_cons_succ]
  refine wpAnyH_take (i:=7) (oi:=⟨some 4,_,_,_,_,_⟩) (v:=v) rfl (by kernel_rfl) (by kernel_rfl) (by kernel_rfl) (fun _ _ _ h=>h) (Or.inl ⟨by kernel_rfl,fun w _=>rfl⟩) (by assumption) ?_
  try simp only [Act.put,List.setIfInBounds_toArray,List.set_cons_zero,List.set_cons_succ]
  refine wpAnyH_take (i:=8) (oi:=⟨some 5,_,_,_,_,_⟩) (v:=u) rfl (by kernel_rfl) (by kernel_rfl) (by kernel_rfl) (fun _ _ _ h=>h) (Or.inl ⟨by kernel_rfl,fun w _=>rfl⟩) (by assumption) ?_
  try simp only [Act.put,List.setIfInBounds_toArray,List.set_cons_zero,List.set_cons_succ]
  refine wpAnyH_take (i:=9) (oi:=⟨some 6,_,_,_,_,_⟩) (v:=.int .i64 0) rfl (by kernel_rfl) (by kernel_rfl) (by kernel_rfl) (fun _ _ _ h=>h) (Or.inl ⟨by kernel_rfl,fun w _=>rfl⟩) (by assumption) ?_
  try simp only [Act.put,List.setIfInBounds_toArray,List.set_cons_zero,List.set_cons_succ]
  refine wpAnyH_done (by kernel_rfl) ?_ _
  go_wp2_with fail
  go_ret3
  have hz:w.heap.size≤w2.heap.size:=by have:=HB2.out.size;simp at this;omega
  exact ⟨v,u,rfl,HV3.out.1.mono hz,HV3.out.2.mono hz,below_new HB3.out⟩
set_option maxHeartbeats 1600000 in
theorem read_free {w:World} {p q:Nat} (x:PNode) (xo:Option Addr) (xm xc:Nat) {ps os:List Int} (hrd:ReadFree x ps os) :
    Calls Tryz.prog 70 #[.pointer (some ⟨p,q,none⟩),x.val (.slice xo xm xc)] w (ReadDone w ps os):=by
  obtain ⟨hf,rfl,rfl⟩:=hrd
  obtain ⟨k,f,l,z,d0,d1,d2,d3,s,t,xx,c⟩:=x
  dsimp only at hf
  subst hf
  unfold PNode.val
  dsimp only
  go_enter Tryz.func70,Tryz.ntmps70
  go_wp2_with fail
  go_ret3
  exact ⟨_,_,rfl,FreshI.nil _ _,FreshI.nil _ _,(Below.refl _ _).alloc (Nat.le_refl _) _⟩
end Go.Proofs.YtcefmpnijjcekaaGreatDoor
namespace Go.Proofs.YtcefmpnijjcekaaGreatDoor
open Go.RowKit
def hereB (n:Nat) (x:Int):Bool:=!decide ((n:Int)≤x)
def FoundA (b:Bool) (k:Int):Prop:=(b=true→0≤k)∧(b=false→k=-1)
set_option maxRecDepth 100000 in
set_option maxHeartbeats 800000 in
theorem indexAbs_any {w:World} {ao:Option Addr} {len cap p q g n c2:Nat} {zs:List Int} (hp:w.cell? ⟨p,q,none⟩=some (.slice (some ⟨g,0,none⟩) n c2)) (hA:IArg w ao len cap zs) :
    Calls Tryz.prog 120 #[.slice ao len cap,.func (.func 72) #[.pointer (some ⟨p,q,none⟩)] #[]] w fun e w'=>(∃ k:Int,e=.returned (.int .i64 k)∧FoundA (!zs.all (hereB n)) k)∧w=w':=by
  have HA:=Lib.hid hA
  have HE:Hid (∀ x:Int,Calls Tryz.prog 72 #[.pointer (some ⟨p,q,none⟩),.int .i64 x] w fun e w'=>e=.returned (.bool (decide ((n:Int)≤x)))∧w=w'):=Lib.hid (fun x=>absent_any x hp)
  have hlen:=hA.big
  have HN:=Lib.hid hA.len
  clear hA hp
  go_enter Tryz.func120,Tryz.ntmps120
  go_wp2_with fail
  go_loop [8] (fun iv=>∃ i:Nat,iv=.int .i64 (i:Int)∧i≤len∧Hid ((zs.take i).all (hereB n)=true)) (fun iv=>len - (intOf iv).toNat)
  case atStart=>exact ⟨0,rfl,Nat.zero_le _,Lib.hid rfl⟩
  case round=>
    obtain ⟨i,rfl,hi,HP⟩:=hrel
    by_cases hlt:i < len
    · obtain ⟨b,off,x,rfl,hx,d1,_⟩:=HA.out.at hlt
      have i1:(i:Int) < (len:Int):=by omega
      have cE:=HE.out x
      have HX:=Lib.hid hx
      have i0:(0:Int)≤(i:Int):=by omega
      clear hx
      cases hd:decide ((n:Int)≤x) with
      | false=>
        rw [hd] at cE
        have HP2:Hid ((zs.take (i+1)).all (hereB n)=true):=Lib.hid (by
          rw [List.take_add_one,HX.out,List.all_append,HP.out]
          simp [hereB,hd])
        clear hd
        go_wp2_with (go_at_call 72;refine cE.mono ?_;rintro e w3 ⟨rfl,rfl⟩)
        go_round
        case rel=>exact ⟨i+1,by go_num,by omega,HP2⟩
        case measure=>simp [intOf];omega
      | true=>
        rw [hd] at cE
        have HP2:Hid (¬ zs.all (hereB n)=true):=Lib.hid (fun h=>by
          have:=List.all_eq_true.1 h x (List.mem_of_getElem? HX.out)
          unfold hereB at this
          rw [hd] at this
          cases this)
        clear hd
        go_wp2_with (go_at_call 72;refine cE.mono ?_;rintro e w3 ⟨rfl,rfl⟩)
        go_ret
        exact ⟨⟨_,rfl,fun _=>i0,fun h=>absurd (by simpa using h) HP2.out⟩,rfl⟩
    · obtain rfl:i=len:=by omega
      have HP2:Hid (zs.all (hereB n)=true):=Lib.hid (by have:=HP.out;rwa [List.take_of_length_le (by rw [HN.out];exact Nat.le_refl _)] at this)
      go_wp2_with fail
      go_ret
      exact ⟨⟨_,rfl,And.intro (fun h=>by rw [HP2.out] at h;cases h) (fun _=>rfl)⟩,rfl⟩
set_option maxHeartbeats 400000 in
theorem containsAbs_any {w:World} {ao:Option Addr} {len cap p q g n c2:Nat} {zs:List Int} (hp:w.cell? ⟨p,q,none⟩=some (.slice (some ⟨g,0,none⟩) n c2)) (hA:IArg w ao len cap zs) :
    Calls Tryz.prog 71 #[.slice ao len cap,.func (.func 72) #[.pointer (some ⟨p,q,none⟩)] #[]] w fun e w'=>e=.returned (.bool (!zs.all (hereB n)))∧w=w':=by
  have c:=indexAbs_any hp hA
  clear hA hp
  cases hd:zs.all (hereB n) with
  | true=>
    rw [hd] at c
    go_enter Tryz.func71,Tryz.ntmps71
    go_wp2_with (go_at_call 120;refine c.mono ?_;rintro e w' ⟨⟨k,rfl,hk⟩,rfl⟩;obtain rfl:=hk.2 rfl)
    go_ret
    exact ⟨rfl,rfl⟩
  | false=>
    rw [hd] at c
    go_enter Tryz.func71,Tryz.ntmps71
    go_wp2_with (go_at_call 120;refine c.mono ?_;rintro e w' ⟨⟨k,rfl,hk⟩,rfl⟩;replace hk:=hk.1 rfl)
    go_ret
    exact ⟨rfl,rfl⟩
end Go.Proofs.YtcefmpnijjcekaaGreatDoor
namespace Go.Proofs.YtcefmpnijjcekaaGreatDoor
open Go.RowKit
def Reads (B:List (List Int)) (x:PNode) (ps os:List Int):Prop:=ReadFree x ps os∨ReadOld (dataW B B.length) x ps os
def nodeAt (B:List (List Int)) (n:Nat):PNode:=decN (halfAt B n)
theorem iread_any {w:World} {p q g cap:Nat} {L:List (List Int)} (x:PNode) (xo:Option Addr) (xm xc:Nat) {ps os:List Int} (hp:w.cell? ⟨p,q,none⟩=some (.slice (some ⟨g,0,none⟩) L.length cap)) (hR:Rw w g L) (h0:59 < L.length) (h1:L.length≤480) (hs:x.small) (hrd:Reads L x ps os) :
    Calls Tryz.prog 70 #[.pointer (some ⟨p,q,none⟩),x.val (.slice xo xm xc)] w (ReadDone w ps os):=by
  rcases hrd with hrd | hrd
  · exact read_free x xo xm xc hrd
  · exact read_old x xo xm xc hp hR rfl h0 h1 hs hrd
theorem decN_small {zs:List Int} (hz:∀ z ∈ zs,0≤z∧z≤255):(decN zs).small:=by
  unfold decN
  split
  · unfold gotN pad64n
    exact readN_small (lay_bytes _ _ _ (fun z hz=>by rw [List.eq_of_mem_replicate hz];decide) (fun z h=>hz z (List.mem_of_mem_take h)))
  · unfold PNode.small noNode u16
    simp
def NodeDone (w:World) (x:PNode) (ps os:List Int) (e:Ending) (w':World):Prop:=
  ∃ xo m xc v u,e=.returned (.tuple #[x.val (.slice xo m xc),v,u,.int .i64 0])∧XIs w' xo m x.x∧(m≤xc∧xc≤9223372036854775807)∧FreshI w' w.heap.size v ps∧FreshI w' w.heap.size u os∧Below w.heap.size w w'
theorem results_4 {fn:Func} {p a b c:Tmp} {ty:TypeId} (h:fn.results=#[.cell p ty,.tmp a,.tmp b,.tmp c]) (tmps:Array Value) {ad:Addr} (ha:tmps.getD p undef=.pointer (some ad)) (P:Program) (w:World) {x:Value} (hl:(loadVar ty ad).run P w=.ok x w) :
    (results fn tmps).run P w=.ok (.tuple #[x,tmps.getD a undef,tmps.getD b undef,tmps.getD c undef]) w:=by
  have ha':tmps[p]?.getD undef=Value.pointer (some ad):=by simpa using ha
  simp only [results,h]
  simp [Sem.run_bind,Result.andThen,asAddr,ha',hl]
theorem row_no {k0 f l z d0 d1 d2 d3 s t c:Int} {xo:Option Addr} {xm xc:Nat} {o:Nat} {v:Value} {p q:Int} (h:([.int .i64 k0,.int .i64 f,.int .i64 l,.int .i64 z,.int .i64 d0,.int .i64 d1,.int .i64 d2,.int .i64 d3,.int .i64 s,.int .i64 t,.slice xo xm xc,.int .i64 c]:List Value)[o]?=some v):¬ CX v p q:=by
  match o,h with
  | 0,h | 1,h | 2,h | 3,h | 4,h | 5,h | 6,h | 7,h | 8,h | 9,h | 10,h | 11,h=>cases Option.some.inj h;intro hC;simp [CX] at hC
  | n+12,h=>cases h
set_option maxRecDepth 100000 in
set_option maxHeartbeats 3200000 in
theorem inode_of {w:World} {p gb gl gs cb cl cs:Nat} {I:Img} (k:Nat) (hk:k < 32) {ps os:List Int} (h:ImgAt w p gb gl gs cb cl cs I) (hV:VolOk I.bl)
    (hrd:∀ W xo xm xc,Below w.heap.size w W→XIs W xo xm (nodeAt I.bl k).x→Calls Tryz.prog 70 #[.pointer (some ⟨p,0,none⟩),(nodeAt I.bl k).val (.slice xo xm xc)] W (ReadDone W ps os)) (hh:ps.all (hereB I.bl.length)=true) :
    Calls Tryz.prog 28 #[.pointer (some ⟨p,0,none⟩),.int .i64 k] w (NodeDone w (nodeAt I.bl k) ps os):=by
  have hp:=h.lt.1
  have h64:=hV.n64
  have hcell:∀ W,Below w.heap.size w W→W.cell? ⟨p,0,none⟩=some (.slice (some ⟨gb,0,none⟩) I.bl.length cb):=fun W hW=>by rw [hW.cell (p:=⟨p,0,none⟩) hp];exact h.c0
  have hrw:∀ W,Below w.heap.size w W→Rw W gb I.bl:=fun W hW=>h.rb.later h.n0.1 hW
  have HN0:Hid (∀ W,Below w.heap.size w W→Calls Tryz.prog 29 #[.pointer (some ⟨p,0,none⟩)] W fun e w'=>e=.returned (.bool false)∧W=w'):=Lib.hid (fun W hW=>none_of (hcell W hW) h.n0.1)
  have cI:=fun (W:World)=>iwithin_any k 0 31 W
  rw [show inI k 0 31=true from decide_eq_true (by omega)] at cI
  have HNO:Hid (∀ W,Below w.heap.size w W→Calls Tryz.prog 69 #[.pointer (some ⟨p,0,none⟩),.int .i64 k] W fun e w'=>∃ xo m xc,e=.returned ((nodeAt I.bl k).val (.slice xo m xc))∧XIs w' xo m (nodeAt I.bl k).x∧(m≤xc∧xc≤9223372036854775807)∧Below W.heap.size W w'):=Lib.hid (fun W hW=>node_any k (hcell W hW) (hrw W hW) rfl (by omega) hk (hV.nodes k hk))
  have HRD:Hid (∀ W xo xm xc,Below w.heap.size w W→XIs W xo xm (nodeAt I.bl k).x→Calls Tryz.prog 70 #[.pointer (some ⟨p,0,none⟩),(nodeAt I.bl k).val (.slice xo xm xc)] W (ReadDone W ps os)):=Lib.hid hrd
  have HCO:Hid (∀ W va vc,Below w.heap.size w W→IArg W va ps.length vc ps→Calls Tryz.prog 71 #[.slice va ps.length vc,.func (.func 72) #[.pointer (some ⟨p,0,none⟩)] #[]] W fun e w'=>e=.returned (.bool false)∧W=w'):=Lib.hid (fun W va vc hW hA=>by
    have hx:=containsAbs_any (hcell W hW) hA
    rw [hh] at hx
    exact hx)
  clear hcell hrw h64 h hV hrd hh hk
  generalize nodeAt I.bl k=X at *
  obtain ⟨k0,f,l,z,d0,d1,d2,d3,s,t,xx,c⟩:=X
  unfold PNode.val at HNO HRD
  dsimp only at HNO HRD
  have HB1:Hid (Below w.heap.size w (w.alloc (.cells nodeZ 68))):=Lib.hid ((Below.refl _ _).alloc (Nat.le_refl _) _)
  unfold nodeZ at HB1
  go_enter Tryz.func28,Tryz.ntmps28
  go_wp2_with (first
    | (go_at_call 29;refine (HN0.out _ HB1.out).mono ?_;rintro e w' ⟨rfl,rfl⟩)
    | (go_at_call 43;refine (cI _).mono ?_;rintro e w' ⟨rfl,rfl⟩)
    | (go_at_call 69;refine (HNO.out _ HB1.out).mono ?_;rintro e w3 ⟨xo,xm,xc,rfl,hx3,hm3,hb3⟩;have HB3:=Lib.hid hb3;have HX3:=Lib.hid hx3;have HM3:=Lib.hid hm3;clear hb3 hx3 hm3)
    | (refine wpList_store_mid rfl 68 (.tmp 4) (.tmp 20) rfl w.heap.size 0 #[.int .i64 k0,.int .i64 f,.int .i64 l,.int .i64 z,.int .i64 d0,.int .i64 d1,.int .i64 d2,.int .i64 d3,.int .i64 s,.int .i64 t,.slice xo xm xc,.int .i64 c] rfl rfl (there_newC HB3.out rfl) (by kernel_rfl) (one_node ..) ?_))
  obtain ⟨W5,hW5⟩:∃ W5,w3.setCells w.heap.size 0 [.int .i64 k0,.int .i64 f,.int .i64 l,.int .i64 z,.int .i64 d0,.int .i64 d1,.int .i64 d2,.int .i64 d3,.int .i64 s,.int .i64 t,.slice xo xm xc,.int .i64 c]=W5:=⟨_,rfl⟩
  have HT:=Lib.hid (there_newC HB3.out rfl:w3.there w.heap.size 0 12)
  have HR5:Hid (W5.rangeAt w.heap.size 0 [.int .i64 k0,.int .i64 f,.int .i64 l,.int .i64 z,.int .i64 d0,.int .i64 d1,.int .i64 d2,.int .i64 d3,.int .i64 s,.int .i64 t,.slice xo xm xc,.int .i64 c]):=Lib.hid (by rw [← hW5];exact World.rangeAt_setCells_same _ _ _ _ HT.out)
  have HBW:Hid (Below w.heap.size w W5):=Lib.hid (by rw [← hW5];exact below_cells _ (Nat.le_refl _) _ _ _ (below_new HB3.out))
  have HLT:Hid (w.heap.size < W5.heap.size):=Lib.hid (World.block_lt_of_cell? _ _ (HR5.out 0 _ rfl))
  have HX5:Hid (XIs W5 xo xm xx):=Lib.hid (by
    rw [← hW5]
    refine HX3.out.apart (g:=w.heap.size) (fun j hj=>heap_setCells _ _ _ _ _ hj) (fun o' f' c' v hv=>?_)
    rw [HB3.out.cell (p:=⟨w.heap.size,o',none⟩) (by simp),World.cell?_alloc_new] at hv
    exact nodeZ_no o' f' c' v hv)
  have HROW:Hid (∀ W,Below W5.heap.size W5 W→W.rangeAt w.heap.size 0 [.int .i64 k0,.int .i64 f,.int .i64 l,.int .i64 z,.int .i64 d0,.int .i64 d1,.int .i64 d2,.int .i64 d3,.int .i64 s,.int .i64 t,.slice xo xm xc,.int .i64 c]):=Lib.hid (fun W hW j v hj=>cell_later hW (HR5.out j v hj))
  have HZ:Hid (∀ o' f' c' v,W5.cell? ⟨w.heap.size,o',none⟩=some v→¬ CX v f' c'):=Lib.hid (fun o' f' c' v hv=>by
    have hsz:w3.cell? ⟨w.heap.size,o',none⟩=nodeZ[o']?:=by rw [HB3.out.cell (p:=⟨w.heap.size,o',none⟩) (by simp),World.cell?_alloc_new];rfl
    rw [← hW5,setCells_cell _ _ _ _ _ (fun k' h1 h2=>by rw [HB3.out.cell (p:=⟨w.heap.size,k',none⟩) (by simp),World.cell?_alloc_new];simp only [List.length_cons,List.length_nil] at h2;simp;omega)] at hv
    split at hv
    · rw [Nat.sub_zero] at hv
      exact row_no hv
    · rw [hsz] at hv
      exact nodeZ_no o' f' c' v hv)
  have HTH:Hid (∀ W,Below W5.heap.size W5 W→W.there w.heap.size 0 12):=Lib.hid (fun W hW j hj=>by
    have h5:W5.there w.heap.size 0 12:=by rw [← hW5];exact World.there_setCells HT.out _ _ _
    obtain ⟨h1,h2⟩:=h5 j hj
    exact ⟨by rw [hW.cell (p:=⟨w.heap.size,0+j,none⟩) HLT.out];exact h1,by rw [hW.frozen (p:=⟨w.heap.size,0+j,none⟩) HLT.out];exact h2⟩)
  change Code.wp _ _ _ _ (w3.setCells w.heap.size 0 [.int .i64 k0,.int .i64 f,.int .i64 l,.int .i64 z,.int .i64 d0,.int .i64 d1,.int .i64 d2,.int .i64 d3,.int .i64 s,.int .i64 t,.slice xo xm xc,.int .i64 c])
  rw [hW5]
  clear hW5 HB3 HX3 HT HN0 HNO cI HB1
  refine wp_region_held_drew (S:=fun W=>W.rangeAt w.heap.size 0 [.int .i64 k0,.int .i64 f,.int .i64 l,.int .i64 z,.int .i64 d0,.int .i64 d1,.int .i64 d2,.int .i64 d3,.int .i64 s,.int .i64 t,.slice xo xm xc,.int .i64 c]) (by kernel_rfl) (HROW.out _ (Below.refl _ _).drew) (fun hHeld=>?_)
  refine wpAnyH_take (i:=0) (oi:=⟨some 22,_,_,_,_,_⟩) (v:=.pointer (some ⟨p,0,none⟩)) rfl (by kernel_rfl) (by kernel_rfl) (by kernel_rfl) (fun _ _ _ h=>h) (Or.inl ⟨by kernel_rfl,fun w _=>rfl⟩) (by assumption) ?_
  try simp only [Act.put,List.setIfInBounds_toArray,List.set_cons_zero,List.set_cons_succ]
  refine wpAnyH_take (i:=1) (oi:=⟨some 23,_,_,_,_,_⟩) (v:=.pointer (some ⟨p,0,none⟩)) rfl (by kernel_rfl) (by kernel_rfl) (by kernel_rfl) (fun _ _ _ h=>h) (Or.inl ⟨by kernel_rfl,by intro w _;go_simp;(try omega)⟩) (by assumption) ?_
  try simp only [Act.put,List.setIfInBounds_toArray,List.set_cons_zero,List.set_cons_succ]
  refine wpAnyH_take (i:=2) (oi:=⟨some 24,_,_,_,_,_⟩) (v:=.pointer (some ⟨p,0,none⟩)) rfl (by kernel_rfl) (by kernel_rfl) (by kernel_rfl) (fun _ _ _ h=>h) (Or.inl ⟨by kernel_rfl,by intro w _;go_simp;(try omega)⟩) (by assumption) ?_
  try simp only [Act.put,List.setIfInBounds_toArray,List.set_cons_zero,List.set_cons_succ]
  refine wpAnyH_take (i:=3) (oi:={ dst:=some 25,op:=.load 68 (.tmp 4),type:=68,pos := "image.go:85",after:=#[],guard:=none }) rfl (by kernel_rfl) (by kernel_rfl) (by kernel_rfl) (fun _ _ _ h=>h) (yieldsIf_load_mid (by rfl) _ _ rfl _ _ rfl _ _ (fun W h=>h) Tryz.underlying68 rfl (by kernel_rfl)) (by assumption) ?_
  try simp only [Act.put,List.setIfInBounds_toArray,List.set_cons_zero,List.set_cons_succ]
  refine wpAnyH_ready (rs:=[4]) (by kernel_rfl) (by simp) ?_
  refine AllReadyH.cons (o:=⟨some 26,_,_,_,_,_⟩) rfl (fun K hK=>?_) AllReadyH.nil
  go_simp
  go_at_call 70
  refine (HRD.out _ xo xm xc HBW.out.drew (HX5.out.later (Below.refl _ _).drew)).mono ?_
  rintro e w5 ⟨v,u,rfl,hv,hu,hb5⟩
  have HB5:Hid (Below W5.heap.size W5 w5):=Lib.hid ((Below.refl _ _).drew.trans hb5)
  have HV5:Hid (FreshI w5 W5.heap.size v ps∧FreshI w5 W5.heap.size u os):=Lib.hid (And.intro hv hu)
  obtain ⟨va,vc,rfl,hva,hvf⟩:=hv
  have HVA:=Lib.hid hva
  clear hu hb5 hva hvf
  refine hK.out _ _ ?_ (fun hHeld1=>?_)
  · exact (HROW.out _ HB5.out)
  clear hK K
  try simp only [Act.put,List.setIfInBounds_toArray,List.set_cons_zero,List.set_cons_succ]
  refine wpAnyH_take (i:=5) (oi:=⟨some 21,_,_,_,_,_⟩) (v:=.tuple #[.slice va ps.length vc,u,.int .i64 0]) rfl (by kernel_rfl) (by kernel_rfl) (by kernel_rfl) (fun _ _ _ h=>h) (Or.inl ⟨by kernel_rfl,fun w _=>rfl⟩) (by assumption) ?_
  try simp only [Act.put,List.setIfInBounds_toArray,List.set_cons_zero,List.set_cons_succ]
  refine wpAnyH_take (i:=6) (oi:=⟨some 27,_,_,_,_,_⟩) (v:=.slice va ps.length vc) rfl (by kernel_rfl) (by kernel_rfl) (by kernel_rfl) (fun _ _ _ h=>h) (Or.inl ⟨by kernel_rfl,by intro w _;go_simp;(try omega)⟩) (by assumption) ?_
  try simp only [Act.put,List.setIfInBounds_toArray,List.set_cons_zero,List.set_cons_succ]
  refine wpAnyH_take (i:=7) (oi:=⟨some 28,_,_,_,_,_⟩) (v:=u) rfl (by kernel_rfl) (by kernel_rfl) (by kernel_rfl) (fun _ _ _ h=>h) (Or.inl ⟨by kernel_rfl,by intro w _;go_simp;(try omega)⟩) (by assumption) ?_
  try simp only [Act.put,List.setIfInBounds_toArray,List.set_cons_zero,List.set_cons_succ]
  refine wpAnyH_take (i:=8) (oi:=⟨some 29,_,_,_,_,_⟩) (v:=.int .i64 0) rfl (by kernel_rfl) (by kernel_rfl) (by kernel_rfl) (fun _ _ _ h=>h) (Or.inl ⟨by kernel_rfl,by intro w _;go_simp;(try omega)⟩) (by assumption) ?_
  try simp only [Act.put,List.setIfInBounds_toArray,List.set_cons_zero,List.set_cons_succ]
  refine wpAnyH_take (i:=9) (oi:=⟨some 5,_,_,_,_,_⟩) (v:=.slice va ps.length vc) rfl (by kernel_rfl) (by kernel_rfl) (by kernel_rfl) (fun _ _ _ h=>h) (Or.inl ⟨by kernel_rfl,fun w _=>rfl⟩) (by assumption) ?_
  try simp only [Act.put,List.setIfInBounds_toArray,List.set_cons_zero,List.set_cons_succ]
  refine wpAnyH_take (i:=10) (oi:=⟨some 6,_,_,_,_,_⟩) (v:=u) rfl (by kernel_rfl) (by kernel_rfl) (by kernel_rfl) (fun _ _ _ h=>h) (Or.inl ⟨by kernel_rfl,fun w _=>rfl⟩) (by assumption) ?_
  try simp only [Act.put,List.setIfInBounds_toArray,List.set_cons_zero,List.set_cons_succ]
  refine wpAnyH_take (i:=11) (oi:=⟨some 7,_,_,_,_,_⟩) (v:=.int .i64 0) rfl (by kernel_rfl) (by kernel_rfl) (by kernel_rfl) (fun _ _ _ h=>h) (Or.inl ⟨by kernel_rfl,fun w _=>rfl⟩) (by assumption) ?_
  try simp only [Act.put,List.setIfInBounds_toArray,List.set_cons_zero,List.set_cons_succ]
  refine wpAnyH_done (by kernel_rfl) ?_ _
  go_wp2_with (first
    | (go_at_call 71;refine (HCO.out _ va vc (HBW.out.trans (HB5.out.mono HBW.out.size)) HVA.out).mono ?_;rintro e w' ⟨rfl,rfl⟩)
    | (refine wpList_load_mid rfl 68 (.tmp 4) rfl w.heap.size 0 rfl [.int .i64 k0,.int .i64 f,.int .i64 l,.int .i64 z,.int .i64 d0,.int .i64 d1,.int .i64 d2,.int .i64 d3,.int .i64 s,.int .i64 t,.slice xo xm xc,.int .i64 c] _ (HROW.out _ HB5.out) Tryz.underlying68 rfl (by kernel_rfl) ?_)
    | (refine wpList_store_mid rfl 68 (.tmp 4) (.tmp 41) rfl w.heap.size 0 #[.int .i64 k0,.int .i64 f,.int .i64 l,.int .i64 z,.int .i64 d0,.int .i64 d1,.int .i64 d2,.int .i64 d3,.int .i64 s,.int .i64 t,.slice xo xm xc,.int .i64 c] rfl rfl (HTH.out _ HB5.out) (by kernel_rfl) (one_node ..) ?_))
  have hb5:=HBW.out.trans (HB5.out.mono HBW.out.size)
  have hkh:∀ j,j≠w.heap.size→(w5.setCells w.heap.size 0 [.int .i64 k0,.int .i64 f,.int .i64 l,.int .i64 z,.int .i64 d0,.int .i64 d1,.int .i64 d2,.int .i64 d3,.int .i64 s,.int .i64 t,.slice xo xm xc,.int .i64 c]).heap[j]?=w5.heap[j]?:=fun j hj=>heap_setCells _ _ _ _ _ hj
  refine bodyPost_ret (results_4 rfl _ rfl _ _ (load_node (n:=⟨k0,f,l,z,d0,d1,d2,d3,s,t,xx,c⟩) (World.rangeAt_setCells_same _ _ _ _ (HTH.out _ HB5.out)))) rfl ?_
  have hg:Grew (fun k=>k=w.heap.size) (fun k=>k=w.heap.size) w5 (w5.setCells w.heap.size 0 [.int .i64 k0,.int .i64 f,.int .i64 l,.int .i64 z,.int .i64 d0,.int .i64 d1,.int .i64 d2,.int .i64 d3,.int .i64 s,.int .i64 t,.slice xo xm xc,.int .i64 c]):=Grew.setCells (fun k=>k=w.heap.size) rfl _ _ _
  refine ⟨xo,xm,xc,_,u,rfl,(HX5.out.later HB5.out).apart (g:=w.heap.size) hkh (fun o' f' c' v hv=>HZ.out o' f' c' v (by rw [← HB5.out.cell (p:=⟨w.heap.size,o',none⟩) HLT.out];exact hv)),HM3.out,
    (HV5.out.1.grew hg (fun k e=>by rw [e];exact HLT.out)).mono HBW.out.size,(HV5.out.2.grew hg (fun k e=>by rw [e];exact HLT.out)).mono HBW.out.size,below_cells _ (Nat.le_refl _) _ _ _ hb5⟩
theorem inode_at {w:World} {p gb gl gs cb cl cs:Nat} {I:Img} (k:Nat) (hk:k < 32) {ps os:List Int} (h:ImgAt w p gb gl gs cb cl cs I) (hV:VolOk I.bl) (hrd:Reads I.bl (nodeAt I.bl k) ps os) (hh:ps.all (hereB I.bl.length)=true) :
    Calls Tryz.prog 28 #[.pointer (some ⟨p,0,none⟩),.int .i64 k] w (NodeDone w (nodeAt I.bl k) ps os):=by
  have hp:=h.lt.1
  have h64:=hV.n64
  have hcell:∀ W,Below w.heap.size w W→W.cell? ⟨p,0,none⟩=some (.slice (some ⟨gb,0,none⟩) I.bl.length cb):=fun W hW=>by rw [hW.cell (p:=⟨p,0,none⟩) hp];exact h.c0
  have hrw:∀ W,Below w.heap.size w W→Rw W gb I.bl:=fun W hW=>h.rb.later h.n0.1 hW
  have hsm:(nodeAt I.bl k).small:=decN_small (h.rb.bts (i:=3+k / 2) (d:=k%2 * 32) (m:=32) (by omega) (by omega)).2.2.1
  exact inode_of k hk h hV (fun W xo xm xc hW _=>iread_any _ xo xm xc (hcell W hW) (hrw W hW) (by omega) h64.2 hsm hrd) hh
theorem inode_any {w:World} {a:Addr} {F:Nat→Prop} {I:Img} (k:Nat) (hk:k < 32) {ps os:List Int} (h:ImgI w a F I) (hV:VolOk I.bl) (hrd:Reads I.bl (nodeAt I.bl k) ps os) (hh:ps.all (hereB I.bl.length)=true) :
    Calls Tryz.prog 28 #[.pointer (some a),.int .i64 k] w (NodeDone w (nodeAt I.bl k) ps os):=by
  obtain ⟨p,gb,gl,gs,cb,cl,cs,rfl,h,rfl⟩:=h
  exact inode_at k hk h hV hrd hh
end Go.Proofs.YtcefmpnijjcekaaGreatDoor
namespace Go.Proofs.YtcefmpnijjcekaaGreatDoor
open Go.RowKit
theorem split_i64 {zs:List Int} (h:∀ z ∈ zs,I64 z):∀ z ∈ splitL zs,I64 z:=by
  intro z hz
  obtain ⟨j,hj,rfl⟩:=List.mem_iff_getElem.1 hz
  have e:(splitL zs)[j]=(splitL zs).getD j 0:=by rw [List.getD_eq_getElem?_getD,List.getElem?_eq_getElem hj];rfl
  rw [e,split_get]
  have hg:∀ k,I64 (zs.getD k 0):=fun k=>by
    by_cases hk:k < zs.length
    · rw [List.getD_eq_getElem?_getD,List.getElem?_eq_getElem hk]
      exact h _ (List.getElem_mem _)
    · rw [getD_behind _ _ (by omega)]
      exact ⟨by decide,by decide⟩
  split
  · exact hg _
  · split
    · exact ⟨by decide,by decide⟩
    · split
      · exact hg _
      · exact ⟨by decide,by decide⟩
theorem fresh_nz {zs fs:List Int} (hn:needP zs≤fs.length) (hd:∀ x ∈ fs.take (needP zs),dataP x=true):∀ i,i < needP zs→nzB (fs.getD i 0)=true:=fun i hi=>by
  have hm:fs.getD i 0 ∈ fs.take (needP zs):=by
    rw [List.getD_eq_getElem?_getD,List.getElem?_eq_getElem (show i < fs.length by omega)]
    exact List.mem_of_getElem? (i:=i) (by rw [List.getElem?_take,if_pos hi,List.getElem?_eq_getElem];rfl)
  have:=hd _ hm
  unfold dataP at this
  unfold nzB
  simp only [decide_eq_true_eq] at this ⊢
  omega
theorem own_small {zs fs:List Int} (hn:needP zs≤fs.length) (hd:∀ x ∈ fs.take (needP zs),dataP x=true):∀ x ∈ ownP zs fs,x=0∨dataP x=true:=fun x hx=>by
  by_cases h0:x=0
  · exact Or.inl h0
  · right
    have e:=numbers_plan (fresh_nz hn hd)
    rw [keys_plan hn] at e
    apply hd
    rw [← e]
    exact List.mem_filter.2 ⟨hx,by simpa [nzB] using h0⟩
theorem planL_small {zs fs:List Int} (hp:ptrsOk zs=true) (hn:needP zs≤fs.length) (hd:∀ x ∈ fs.take (needP zs),dataP x=true):∀ x ∈ planL zs fs,0≤x∧x≤65535:=by
  have hown:∀ k,0≤(ownP zs fs).getD k 0∧(ownP zs fs).getD k 0≤65535:=fun k=>by
    by_cases hk:k < (ownP zs fs).length
    · have hm:(ownP zs fs).getD k 0 ∈ ownP zs fs:=by rw [List.getD_eq_getElem?_getD,List.getElem?_eq_getElem hk];exact List.getElem_mem _
      rcases own_small hn hd _ hm with h | h
      · rw [h];decide
      · unfold dataP at h
        simp only [decide_eq_true_eq] at h
        omega
    · rw [getD_behind _ _ (by omega)];decide
  have hzs:∀ k,0≤zs.getD k 0∧zs.getD k 0≤65535:=fun k=>by
    by_cases hk:k < zs.length
    · have hm:zs.getD k 0 ∈ zs:=by rw [List.getD_eq_getElem?_getD,List.getElem?_eq_getElem hk];exact List.getElem_mem _
      unfold ptrsOk apartL at hp
      simp only [Bool.and_eq_true,List.all_eq_true] at hp
      have:=hp.2.1 _ hm
      unfold okP at this
      simp only [decide_eq_true_eq] at this
      omega
    · rw [getD_behind _ _ (by omega)];decide
  intro x hx
  obtain ⟨j,hj,rfl⟩:=List.mem_iff_getElem.1 hx
  have e:(planL zs fs)[j]=(planL zs fs).getD j 0:=by rw [List.getD_eq_getElem?_getD,List.getElem?_eq_getElem hj];rfl
  rw [planL_length] at hj
  rw [e]
  by_cases h1:34≤j∧j < 37
  · rw [planL_get,if_pos h1];exact hown _
  · by_cases h2:j < 154
    · rw [planL_low h2 h1,split_get]
      split
      · exact hzs _
      · split
        · decide
        · first
          | exact hzs _
          | (split
             · exact hzs _
             · decide)
    · have:=planL_own (zs:=zs) (fs:=fs) (show j - 154 < 5 by omega)
      rw [show 154+(j - 154)=j by omega] at this
      rw [this]
      exact hown _
theorem plan_cells {zs fs:List Int} {g:Nat} {W:World} (h:ChartAt W g (planL zs fs)):(W.cell? ⟨g,0,none⟩=some (.int .i64 (zs.getD 0 0))∧W.cell? ⟨g,1,none⟩=some (.int .i64 (zs.getD 1 0))∧W.cell? ⟨g,2,none⟩=some (.int .i64 (zs.getD 2 0))∧W.cell? ⟨g,3,none⟩=some (.int .i64 (zs.getD 3 0)))∧W.cell? ⟨g,154,none⟩=some (.int .i64 (singleP zs fs))∧W.cell? ⟨g,155,none⟩=some (.int .i64 (doubleP zs fs)):=by
  have hc:∀ j,j < 159→W.cell? ⟨g,j,none⟩=some (.int .i64 ((planL zs fs).getD j 0)):=fun j hj=>by
    have:=h.2 j _ (ints_get (x:=(planL zs fs).getD j 0) (by rw [List.getD_eq_getElem?_getD,List.getElem?_eq_getElem (by rw [planL_length];exact hj)];rfl))
    rwa [Nat.zero_add] at this
  have hd:∀ j,j < 4→W.cell? ⟨g,j,none⟩=some (.int .i64 (zs.getD j 0)):=fun j hj=>by
    have e:(planL zs fs).getD j 0=zs.getD j 0:=by rw [planL_low (by omega) (by omega),split_get,if_pos (by omega)]
    rw [hc j (by omega),e]
  have o0:=planL_own (zs:=zs) (fs:=fs) (show 0 < 5 by decide)
  have o1:=planL_own (zs:=zs) (fs:=fs) (show 1 < 5 by decide)
  refine ⟨⟨hd 0 (by decide),hd 1 (by decide),hd 2 (by decide),hd 3 (by decide)⟩,?_,?_⟩
  · rw [hc 154 (by decide),o0];rfl
  · rw [hc 155 (by decide),o1];rfl
def PlanDone (base:Nat) (w0:World) (zs fs:List Int) (e:Ending) (w:World):Prop:=
  ∃ v,e=.returned (.tuple #[nodeV 1 (zs.getD 0 0) (zs.getD 1 0) (zs.getD 2 0) (zs.getD 3 0) (singleP zs fs) (doubleP zs fs),v,.int .i64 0])∧WOwn base w v (writesP zs fs)∧Below base w0 w
set_option maxRecDepth 100000 in
set_option maxHeartbeats 12800000 in
theorem PlanOk_any {ao bo:Option Addr} {len cap n c:Nat} {zs fs:List Int} {w:World} (K:PlanKit w ao bo len cap n c zs fs) (hn:needP zs≤n) (hE:freshErr fs (needP zs) zs=0) :
    Calls Tryz.prog 112 #[.slice ao len cap,.slice bo n c] w (PlanDone w.heap.size w zs fs):=by
  have HN:=Lib.hid (fun W hW=>K.need (W:=W) hW)
  have HT:=Lib.hid (made_node w)
  have HB0:Hid (Below w.heap.size w (w.alloc (.cells zeroN 68))):=Lib.hid ((Below.refl _ _).alloc (Nat.le_refl _) _)
  have hfl:=K.f.len
  have hzl:=K.a.len
  have h96:zs.length≤96:=by have:=K.ok;unfold ptrsOk at this;rw [Bool.and_eq_true,decide_eq_true_eq] at this;exact this.1
  have hn5:needP zs≤5:=by
    unfold needP underN
    cases someP zs 4 30 <;> cases someP zs 34 30 <;> cases someP zs 64 30 <;> cases someP zs 94 30 <;> decide
  have hcap:=K.f.2.2.2
  have hfo:=fresh_ok hE
  rw [freshErr_eq (by omega)] at hE
  have HOWN:Hid (∀ W,Below w.heap.size w W→IArg W bo (needP zs) c (fs.take (needP zs))):=Lib.hid (fun W hW=>(K.f.later hW).takeAny hn)
  have HC:Hid (∀ W,Below w.heap.size w W→Calls Tryz.prog 163 #[.slice bo (needP zs) c,.int .i64 0] W fun e w'=>e=.returned (.bool (decide ((0:Int) ∈ fs.take (needP zs))))∧W=w'):=Lib.hid (fun W hW=>Contains_any bo _ c _ 0 W (HOWN.out W hW))
  have HAP:Hid (∀ W,Below w.heap.size w W→Calls Tryz.prog 159 #[.slice (some ⟨W.heap.size,0,none⟩) (2:Nat) (2:Nat)] (W.alloc (.cells #[.slice ao len cap,.slice bo (needP zs) c] 31)) fun e w'=>e=.returned (.bool (apartL (zs ++ fs.take (needP zs))))∧Below (W.alloc (.cells #[.slice ao len cap,.slice bo (needP zs) c] 31)).heap.size (W.alloc (.cells #[.slice ao len cap,.slice bo (needP zs) c] 31)) w'):=Lib.hid (fun W hW=>by
    have h:=apart_any W.heap.size 0 2 2 [zs,fs.take (needP zs)] _ rfl (lists_two (K.a.later hW) (HOWN.out W hW) 31) (by
      show zs.length+((fs.take (needP zs)).length+0)≤10000
      rw [List.length_take]
      omega) (by decide)
    rw [show [zs,fs.take (needP zs)].flatten=zs ++ fs.take (needP zs) from by simp] at h
    exact h)
  have HSP:Hid (∀ W,Below w.heap.size w W→Calls Tryz.prog 160 #[.slice ao len cap] W fun e w'=>∃ g,e=.returned (.pointer (some ⟨g,0,none⟩))∧OwnV W.heap.size W g (ints (splitL zs)) w'):=Lib.hid (fun W hW=>split_any ao len cap zs W (K.a.later hW))
  have HPL:Hid (∀ W W5 g,Below w.heap.size w W→OwnV W.heap.size W g (ints (splitL zs)) W5→Calls Tryz.prog 164 #[.pointer (some ⟨g,0,none⟩),.slice bo (needP zs) c] W5 fun e w'=>e=.returned (.tuple #[])∧OwnV W.heap.size W g (ints (planL zs fs)) w'):=Lib.hid (fun W W5 g hW hO=>place_any g (splitL zs) W W5 hO (split_length zs) (split_i64 K.a.2.1) bo _ c _ (HOWN.out W hW) (by rw [usedN_need];exact Nat.le_refl _))
  have HMEM:Hid (∀ x ∈ planL zs fs,0≤x∧x≤65535):=Lib.hid (planL_small K.ok hfo.1 hfo.2.1)
  have HBK:Hid (∀ g W,ChartAt W g (planL zs fs)→Calls Tryz.prog 165 #[.pointer (some ⟨g,0,none⟩)] W fun e w'=>∃ v,e=.returned v∧WOwn W.heap.size w' v (writesP zs fs)∧Below W.heap.size W w'):=Lib.hid (fun g W hC=>by
    have h:=blocks_any g (planL zs fs) W hC HMEM.out
    rw [plan_blocks (fresh_nz hfo.1 hfo.2.1)] at h
    exact h)
  have HLD:Hid (∀ g W,ChartAt W g (planL zs fs)→(W.cell? ⟨g,0,none⟩=some (.int .i64 (zs.getD 0 0))∧W.cell? ⟨g,1,none⟩=some (.int .i64 (zs.getD 1 0))∧W.cell? ⟨g,2,none⟩=some (.int .i64 (zs.getD 2 0))∧W.cell? ⟨g,3,none⟩=some (.int .i64 (zs.getD 3 0)))∧W.cell? ⟨g,154,none⟩=some (.int .i64 (singleP zs fs))∧W.cell? ⟨g,155,none⟩=some (.int .i64 (doubleP zs fs))):=Lib.hid (fun g W h=>plan_cells h)
  have HPLN:Hid ((planL zs fs).length=159):=Lib.hid (planL_length zs fs)
  have i1:¬ (n:Int) < (needP zs:Int):=by omega
  have i2:(needP zs:Int)≤(c:Int):=by omega
  have i3:needP zs≤c:=by omega
  have i4:(0:Int)≤(needP zs:Int):=by omega
  have hB:apartL (zs ++ fs.take (needP zs))=true:=hfo.2.2
  have hD:decide ((0:Int) ∈ fs.take (needP zs))=false:=by
    rw [hB] at hE
    cases hd:decide ((0:Int) ∈ fs.take (needP zs)) with
    | false=>rfl
    | true=>rw [hd] at hE;exact absurd hE (by decide)
  rw [hB] at HAP
  rw [hD] at HC
  unfold zeroN nodeCs at HT HB0
  unfold PlanDone
  generalize zs.getD 0 0=x0 at *
  generalize zs.getD 1 0=x1 at *
  generalize zs.getD 2 0=x2 at *
  generalize zs.getD 3 0=x3 at *
  generalize singleP zs fs=s at *
  generalize doubleP zs fs=t at *
  generalize planL zs fs=M at *
  generalize splitL zs=L at *
  generalize writesP zs fs=ws at *
  generalize needP zs=N at *
  clear K hfl hzl h96 hn5 hfo hE hB hD HOWN HMEM
  go_enter Tryz.func112,Tryz.ntmps112
  go_wp2_with (first
        | (go_at_call 103;refine (HN.out _ HB0.out).mono ?_;rintro e w2 ⟨rfl,hb⟩;have HB2:=Lib.hid hb;have HB3:=Lib.hid (HB0.out.trans (hb.mono HB0.out.size));clear hb)
        | (go_at_call 163;refine (HC.out _ HB3.out).mono ?_;rintro e w3 ⟨rfl,rfl⟩)
        | (go_at_call 159;refine (HAP.out _ HB3.out).mono ?_;rintro e w4 ⟨rfl,hb⟩;have HB4:=Lib.hid (HB3.out.trans (((((Below.refl _ _).alloc (Nat.le_refl _) _)).trans (hb.mono (by simp))).mono HB3.out.size));have HB24:=Lib.hid (HB2.out.trans (((((Below.refl _ _).alloc (Nat.le_refl _) _)).trans (hb.mono (by simp))).mono HB2.out.size));clear hb)
        | (go_at_call 160;refine (HSP.out _ HB4.out).mono ?_;rintro e w5 ⟨g,rfl,ho⟩;have HO5:=Lib.hid ho;clear ho)
        | (go_at_call 164;refine (HPL.out _ _ _ HB4.out HO5.out).mono ?_;rintro e w6 ⟨rfl,ho⟩;have HO6:=Lib.hid ho;clear ho))
  have HC6:Hid (ChartAt w6 g M):=Lib.hid (chart_of_own HO6.out HPLN.out)
  have HK:Hid (∀ W,Below w6.heap.size w6 W→W.cell? ⟨g,0,none⟩=some (.int .i64 x0)∧W.cell? ⟨g,1,none⟩=some (.int .i64 x1)∧W.cell? ⟨g,2,none⟩=some (.int .i64 x2)∧W.cell? ⟨g,3,none⟩=some (.int .i64 x3)∧W.cell? ⟨g,154,none⟩=some (.int .i64 s)∧W.cell? ⟨g,155,none⟩=some (.int .i64 t)):=Lib.hid (fun W hW=>by
    obtain ⟨⟨c0,c1,c2,c3⟩,c4,c5⟩:=HLD.out g w6 HC6.out
    exact ⟨cell_later hW c0,cell_later hW c1,cell_later hW c2,cell_later hW c3,cell_later hW c4,cell_later hW c5⟩)
  go_region_held3 (fun W=>W.cell? ⟨g,0,none⟩=some (.int .i64 x0)∧W.cell? ⟨g,1,none⟩=some (.int .i64 x1)∧W.cell? ⟨g,2,none⟩=some (.int .i64 x2)∧W.cell? ⟨g,3,none⟩=some (.int .i64 x3)∧W.cell? ⟨g,154,none⟩=some (.int .i64 s)∧W.cell? ⟨g,155,none⟩=some (.int .i64 t)) (first | exact HK.out _ ((Below.refl _ _).drew) | exact HK.out _ (((Below.refl _ _).drew).alloc (Nat.le_refl _) _) | exact HK.out _ (((Below.refl _ _).alloc (Nat.le_refl _) _).drew)) (fail)
  obtain ⟨W7,hW7⟩:∃ W7,W7=(w6.alloc (.cells (nodeCs 1 x0 x1 x2 x3 s t).toArray 68)).drew:=⟨_,rfl⟩
  have HN7:Hid (W7.rangeAt w6.heap.size 0 (nodeCs 1 x0 x1 x2 x3 s t)):=Lib.hid (by
    rw [hW7]
    intro j v hj
    rw [Nat.zero_add]
    show (w6.alloc _).cell? _=_
    rw [World.cell?_alloc_new]
    simpa using hj)
  have HB7:Hid (Below w6.heap.size w6 W7):=Lib.hid (by rw [hW7];exact ((Below.refl _ _).alloc (Nat.le_refl _) _).drew)
  unfold nodeCs at hW7
  rw [← hW7]
  clear hW7
  go_wp2_with fail
  obtain ⟨fsN,hfN⟩:=uNode
  refine wp_region_held_drew (S:=fun W=>W.rangeAt w6.heap.size 0 (nodeCs 1 x0 x1 x2 x3 s t)) (by kernel_rfl) HN7.out (fun hHeld=>?_)
  refine wpAnyH_take (i:=0) (oi:={ dst:=some 59,op:=.load 68 (.tmp 11),type:=68,pos := "tree.go:70",after:=#[],guard:=none }) rfl (by kernel_rfl) (by kernel_rfl) (by kernel_rfl) (fun _ _ _ h=>h) (yieldsIf_load_mid (by rfl) _ _ rfl _ _ rfl _ _ (fun W h=>h) hfN rfl (iNode _ rfl)) (by assumption) ?_
  simp only [Act.put,List.setIfInBounds_toArray,List.set_cons_zero,List.set_cons_succ]
  refine wpAnyH_ready (rs:=[1]) (by kernel_rfl) (by simp) ?_
  refine AllReadyH.cons rfl (fun K hK=>?_) AllReadyH.nil
  go_simp
  refine hK.out _ _ ?_ (fun hHeld2=>?_)
  · exact hHeld
  clear hK K
  try simp only [Act.put,List.setIfInBounds_toArray,List.set_cons_zero,List.set_cons_succ]
  refine wpAnyH_ready (rs:=[2]) (by kernel_rfl) (by simp) ?_
  refine AllReadyH.cons rfl (fun K hK=>?_) AllReadyH.nil
  go_simp
  go_at_call 165
  refine (HBK.out g _ ((HC6.out.later HB7.out).later (Below.refl _ _).drew)).mono ?_
  rintro e w8 ⟨v8,rfl,hw8,hb8⟩
  have HW8:=Lib.hid hw8
  have HB8:=Lib.hid hb8
  clear hw8 hb8
  try (go_wp2_with fail)
  refine hK.out _ _ ?_ (fun hHeld3=>?_)
  · exact fun j v hj=>cell_later HB8.out (hHeld j v hj)
  clear hK K
  try simp only [Act.put,List.setIfInBounds_toArray,List.set_cons_zero,List.set_cons_succ]
  have HW80:Hid (Below w.heap.size w w8):=Lib.hid ((((HB4.out.trans (HO6.out.2.2.2.mono HB4.out.size)).trans (HB7.out.mono (by have h1:=HB4.out.size;have h2:=HO6.out.2.2.2.size;omega))).drew).trans (HB8.out.mono (by have h1:=HB4.out.size;have h2:=HO6.out.2.2.2.size;have h3:=HB7.out.size;show _≤W7.heap.size;omega)))
  have HTH:Hid (w8.there w.heap.size 0 (nodeCs 1 x0 x1 x2 x3 s t).toArray.size):=Lib.hid (by
    have h1:=(HB24.out.trans (HO6.out.2.2.2.mono HB24.out.size))
    have h2:=h1.trans (HB7.out.mono h1.size)
    have h3:=h2.drew.trans (HB8.out.mono h2.size)
    exact there_laterT h3 HT.out.1 (by simp))
  refine wpAnyH_ready (rs:=[3]) (by kernel_rfl) (by simp) ?_
  refine AllReadyH.cons rfl (fun K hK=>?_) AllReadyH.nil
  rw [if_pos (by rfl)]
  refine wp_store_mid _ _ _ rfl _ _ (nodeCs 1 x0 x1 x2 x3 s t).toArray rfl rfl HTH.out (iNodeA 1 x0 x1 x2 x3 s t) (all_oneCell_toArray (node_one 1 x0 x1 x2 x3 s t)) ?_
  refine hK.out _ _ ?_ (fun hHeld4=>?_)
  · exact World.rangeAt_setCells_apart hHeld3 _ _ _ (Or.inl (by have h1:=HB4.out.size;have h2:=HO6.out.2.2.2.size;have h3:=HB0.out.size;have h5:=HB24.out.size;simp at h3 h5;omega))
  clear hK K
  try simp only [Act.put,List.setIfInBounds_toArray,List.set_cons_zero,List.set_cons_succ]
  refine wpAnyH_ready (rs:=[4]) (by kernel_rfl) (by simp) ?_
  refine AllReadyH.cons rfl (fun K hK=>?_) AllReadyH.nil
  go_simp
  refine hK.out _ _ ?_ (fun hHeld5=>?_)
  · exact hHeld4
  clear hK K
  try simp only [Act.put,List.setIfInBounds_toArray,List.set_cons_zero,List.set_cons_succ]
  refine wpAnyH_ready (rs:=[5]) (by kernel_rfl) (by simp) ?_
  refine AllReadyH.cons rfl (fun K hK=>?_) AllReadyH.nil
  go_simp
  refine hK.out _ _ ?_ (fun hHeld6=>?_)
  · exact hHeld4
  clear hK K
  try simp only [Act.put,List.setIfInBounds_toArray,List.set_cons_zero,List.set_cons_succ]
  refine wpAnyH_done (by kernel_rfl) ?_ _
  go_wp2_with fail
  refine bodyPost_ret (v:=.tuple #[nodeV 1 x0 x1 x2 x3 s t,v8,.int .i64 0]) ?_ rfl ⟨v8,rfl,?_,?_⟩
  · exact node_end rfl _ _ _ _ _ _ _ _ _ _ _ _ _ rfl rfl rfl HTH.out rfl
  · refine WOwn.mono (WOwn.keeps HW8.out (Keeps.sets _ _ _ _) ?_) ?_
    all_goals (have h1:=HB4.out.size;have h2:=HO6.out.2.2.2.size;have h3:=HB0.out.size;have h5:=HB24.out.size;have h6:=HB7.out.size;simp at h3 h5;show _≤W7.heap.size;omega)
  · exact below_cells _ (Nat.le_refl _) _ _ _ HW80.out
end Go.Proofs.YtcefmpnijjcekaaGreatDoor
namespace Go.Proofs.YtcefmpnijjcekaaGreatDoor
open Go.RowKit
set_option maxHeartbeats 400000 in
theorem part01_any (x:Nat) (n:Int) (w:World) (h:FI x n) (h0:0≤n∧n≤65535) :
    Calls Tryz.prog 228 #[.float .f64 x] w fun e w'=>e=.returned (.tuple #[.int .i64 n,.bool true])∧w=w':=by
  have o1:=fi_ge h fi_neg20 (by omega)
  have o2:=fi_le h fi_20 (by omega)
  have hv:=fi_toInt .i64 h (by show -9223372036854775808≤n;omega) (by show n≤9223372036854775807;omega)
  have o3:∀ w,(convert 149 3 (.float .f64 x)).run Tryz.prog w=.ok (.int .i64 n) w:=fun w=>run_convert_float_int w 149 3 .f64 .i64 x n (by rw [Tryz.underlying149];rfl) Tryz.underlying3 hv
  have o4:=fi_eq (fi_ofInt n (by omega)) h rfl
  clear h hv
  go_enter Tryz.func228,Tryz.ntmps228
  go_wp2
  go_ret2
  exact ⟨rfl,rfl⟩
set_option maxHeartbeats 400000 in
theorem Of01_any (x y:Nat) (a b:Int) (w:World) (hx:FI x a) (hy:FI y b) (hs:smallR a b) :
    Calls Tryz.prog 193 #[.complex .f64 x y] w fun e w'=>e=.returned (.tuple #[.agg #[.int .i64 a,.int .i64 b],.bool true])∧Below w.heap.size w w':=by
  unfold smallR at hs
  have c1:=fun W=>part01_any x a W hx (by omega)
  have c2:=fun W=>part01_any y b W hy (by omega)
  have HB:Hid (Below w.heap.size w (w.alloc (.cells #[.int .i64 a,.int .i64 b] 265))):=Lib.hid ((Below.refl _ _).alloc (Nat.le_refl _) _)
  clear hx hy hs
  go_enter Tryz.func193,Tryz.ntmps193
  go_wp2_with (go_at_call 228;first | ((with_reducible refine (c1 _).mono ?_);rintro e w' ⟨rfl,rfl⟩) | ((with_reducible refine (c2 _).mono ?_);rintro e w' ⟨rfl,rfl⟩))
  refine bodyPost_ret (v:=.tuple #[.agg #[.int .i64 a,.int .i64 b],.bool true]) ?_ rfl ⟨rfl,HB.out⟩
  rw [results_cell_tmp rfl]
  go_simp
  try rfl
set_option maxRecDepth 100000 in
set_option maxHeartbeats 1600000 in
theorem Parts02_any (x y:Nat) (a b:Int) (w:World) (hx:FI x a) (hy:FI y b) (hs:smallR a b) :
    Calls Tryz.prog 151 #[.complex .f64 x y] w fun e w'=>e=.returned (.tuple #[.int .i64 a,.int .i64 b,.bool (runOk a b)])∧Below w.heap.size w w':=by
  have c:=fun W=>Of01_any x y a b W hx hy hs
  unfold smallR at hs
  have ha:0≤a:=hs.1
  have hd0:decide (0≤a)=true:=decide_eq_true ha
  have hw:IntKind.i64.wrap (a+b)=a+b:=by rw [IntKind.wrap_i64];omega
  by_cases h1:1≤b
  · have hd1:decide (1≤b)=true:=decide_eq_true h1
    by_cases h2:a+b≤480
    · have hd2:decide (a+b≤480)=true:=decide_eq_true h2
      have HV:Hid (runOk a b=true):=Lib.hid (decide_eq_true ⟨ha,h1,h2⟩)
      clear hx hy hs
      go_enter Tryz.func151,Tryz.ntmps151
      go_wp2_with (go_at_call 193;refine (c _).mono ?_;rintro e w2 ⟨rfl,hb⟩;have B2:=Lib.hid (hb.alloc hb.size (.cells #[.int .i64 a,.int .i64 b] 265));clear hb)
      go_quiet (fail)
      go_wp2_with fail
      go_ret3
      exact ⟨by rw [HV.out];rfl,below_drewN B2.out _⟩
    · have hd2:decide (a+b≤480)=false:=decide_eq_false h2
      have HV:Hid (runOk a b=false):=Lib.hid (decide_eq_false (fun h=>h2 h.2.2))
      clear hx hy hs
      go_enter Tryz.func151,Tryz.ntmps151
      go_wp2_with (go_at_call 193;refine (c _).mono ?_;rintro e w2 ⟨rfl,hb⟩;have B2:=Lib.hid (hb.alloc hb.size (.cells #[.int .i64 a,.int .i64 b] 265));clear hb)
      go_quiet (fail)
      go_wp2_with fail
      go_ret3
      exact ⟨by rw [HV.out];rfl,below_drewN B2.out _⟩
  · have hd1:decide (1≤b)=false:=decide_eq_false h1
    have HV:Hid (runOk a b=false):=Lib.hid (decide_eq_false (fun h=>h1 h.2.1))
    clear hx hy hs
    go_enter Tryz.func151,Tryz.ntmps151
    go_wp2_with (go_at_call 193;refine (c _).mono ?_;rintro e w2 ⟨rfl,hb⟩;have B2:=Lib.hid (hb.alloc hb.size (.cells #[.int .i64 a,.int .i64 b] 265));clear hb)
    go_quiet (fail)
    go_wp2_with fail
    go_ret3
    exact ⟨by rw [HV.out];rfl,below_drewN B2.out _⟩
def dataB (p:Int):Bool:=decide (59≤p∧p < 480)
theorem Data09_any (p:Int) (w:World):Calls Tryz.prog 149 #[.int .i64 p] w fun e w'=>e=.returned (.bool (dataB p))∧w=w':=by
  by_cases h1:59≤p
  · by_cases h2:p < 480
    · have HE:Hid (dataB p=true):=Lib.hid (decide_eq_true ⟨h1,h2⟩)
      go_enter Tryz.func149,Tryz.ntmps149
      go_wp2
      go_ret
      exact ⟨by rw [HE.out];rfl,rfl⟩
    · have HE:Hid (dataB p=false):=Lib.hid (decide_eq_false (fun h=>h2 h.2))
      go_enter Tryz.func149,Tryz.ntmps149
      go_wp2
      go_ret
      exact ⟨by rw [HE.out];rfl,rfl⟩
  · have HE:Hid (dataB p=false):=Lib.hid (decide_eq_false (fun h=>h1 h.1))
    go_enter Tryz.func149,Tryz.ntmps149
    go_wp2
    go_ret
    exact ⟨by rw [HE.out];rfl,rfl⟩
def Six (w:World) (g:Nat) (l:List Int):Prop:=l.length=6∧∀ j x,l[j]?=some x→w.cell? ⟨g,j,none⟩=some (.int .i64 x)
set_option maxHeartbeats 800000 in
theorem all09_any (n:PNode) (v:Value) (hv:v.oneCell'=true) (w:World) (hsl:∃ ao m cap,v=.slice ao m cap):Calls Tryz.prog 95 #[n.val v] w fun e w'=>∃ g,e=.returned (.slice (some ⟨g,0,none⟩) (6:Nat) (6:Nat))∧Six w' g n.ptrs∧Below w.heap.size w w':=by
  obtain ⟨k,f,l,z,d0,d1,d2,d3,s,t,x,c⟩:=n
  obtain ⟨ao,m,cap,rfl⟩:=hsl
  unfold PNode.val PNode.ptrs
  simp only
  have HB:Hid (Below w.heap.size w (w.alloc (.cells #[.int .i64 k,.int .i64 f,.int .i64 l,.int .i64 z,.int .i64 d0,.int .i64 d1,.int .i64 d2,.int .i64 d3,.int .i64 s,.int .i64 t,.slice ao m cap,.int .i64 c] 68))):=Lib.hid ((Below.refl _ _).alloc (Nat.le_refl _) _)
  go_enter Tryz.func95,Tryz.ntmps95
  go_wp2_with fail
  go_ret
  refine ⟨w.heap.size+1,rfl,⟨rfl,fun j u hj=>?_⟩,HB.out.alloc HB.out.size _⟩
  rw [← World.size_alloc w (.cells #[.int .i64 k,.int .i64 f,.int .i64 l,.int .i64 z,.int .i64 d0,.int .i64 d1,.int .i64 d2,.int .i64 d3,.int .i64 s,.int .i64 t,.slice ao m cap,.int .i64 c] 68),World.cell?_alloc_new]
  match j,hj with
  | 0,h | 1,h | 2,h | 3,h | 4,h | 5,h=>cases h;rfl
  | j+6,h=>cases h
end Go.Proofs.YtcefmpnijjcekaaGreatDoor
