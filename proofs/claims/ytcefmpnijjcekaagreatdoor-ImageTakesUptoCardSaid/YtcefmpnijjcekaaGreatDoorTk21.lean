/- Proved here: what the landed image's need, may and plan answer of the old format. The conditions stand at each theorem. Proved here: what the landed image's Make answers. The conditions stand at each theorem. -/
import Derived.Test.YtcefmpnijjcekaaGreatDoorTk20
import Derived.Test.YtcefmpnijjcekaaGreatDoorTk8
import Derived.Test.YtcefmpnijjcekaaGreatDoorTk9
set_option linter.unusedVariables false
set_option linter.unusedSimpArgs false
namespace Go.Proofs.YtcefmpnijjcekaaGreatDoor
open Go.RowKit
set_option maxHeartbeats 800000 in
theorem need_old {w:World} {ao:Option Addr} {n cap:Nat} {l:List Int} (hA:IArg w ao n cap l) (hok:ptrsOk l=true) :
    Calls Tryz.prog 67 #[.int .i64 1,.slice ao n cap] w (Tells w.heap.size w (.int .i64 (needP l:Int))):=by
  have cN:=Need_any ao n cap l w hA
  rw [show needOut l=(needP l:Int) by unfold needOut;rw [if_pos hok],show needErr l=0 by unfold needErr;rw [if_pos hok]] at cN
  generalize (needP l:Int)=Z at *
  clear hA hok
  go_enter Tryz.func67,Tryz.ntmps67
  go_wp2_with (first
    | (go_at_call 103;refine cN.mono ?_;rintro e w2 ⟨rfl,hb⟩;have HB2:=Lib.hid hb;clear hb)
    | (go_at_call 79;refine (mustI_any _ _).mono ?_;rintro e w' ⟨rfl,rfl⟩))
  go_ret
  exact ⟨rfl,HB2.out⟩
set_option maxHeartbeats 1600000 in
theorem may_yes {w:World} {p q g n cap:Nat} {lo:Option Addr} {m lc:Nat} {l:List Int} (x:PNode) (xo:Option Addr) (xm xc:Nat) (hp:w.cell? ⟨p,q,none⟩=some (.slice (some ⟨g,0,none⟩) n cap)) (hA:IArg w lo m lc l) (hk:x.k≠0) (hok:ptrsOk l=true) (hh:l.all (hereB n)=true) :
    Calls Tryz.prog 65 #[.pointer (some ⟨p,q,none⟩),x.val (.slice xo xm xc),.slice lo m lc] w (Says w.heap.size w true):=by
  have hp0:=World.block_lt_of_cell? _ _ hp
  have HN:Hid (∀ W,Below w.heap.size w W→Calls Tryz.prog 103 #[.slice lo m lc] W fun e w'=>e=.returned (.tuple #[.int .i64 (needP l:Int),.int .i64 0])∧Below W.heap.size W w'):=Lib.hid (fun W hW=>by
    have cN:=Need_any lo m lc l W (hA.later hW)
    rw [show needOut l=(needP l:Int) by unfold needOut;rw [if_pos hok],show needErr l=0 by unfold needErr;rw [if_pos hok]] at cN
    exact cN)
  have HC:Hid (∀ W,Below w.heap.size w W→Calls Tryz.prog 71 #[.slice lo m lc,.func (.func 72) #[.pointer (some ⟨p,q,none⟩)] #[]] W fun e w'=>e=.returned (.bool false)∧W=w'):=Lib.hid (fun W hW=>by
    have hx:=containsAbs_any (by rw [hW.cell (p:=⟨p,q,none⟩) hp0];exact hp) (hA.later hW)
    rw [hh] at hx
    exact hx)
  obtain ⟨k,f,l',z,d0,d1,d2,d3,s,t,xx,c⟩:=x
  have hk:k≠0:=hk
  have hne:(k == 0)=false:=by simpa using hk
  unfold PNode.val
  dsimp only
  have HB1:=Lib.hid (show ∀ o,Below w.heap.size w (w.alloc o) from fun o=>(Below.refl _ _).alloc (Nat.le_refl _) _)
  clear hp hA hok hh
  go_enter Tryz.func65,Tryz.ntmps65
  go_wp2_with (first
    | (go_at_call 103;refine (HN.out _ (HB1.out _)).mono ?_;rintro e w2 ⟨rfl,hb⟩;have HB2:=Lib.hid (below_new hb);clear hb)
    | (go_at_call 71;refine (HC.out _ HB2.out).mono ?_;rintro e w' ⟨rfl,rfl⟩))
  go_ret
  exact ⟨rfl,HB2.out⟩
def PlanNone (w:World) (l fs:List Int) (e:Ending) (w':World):Prop:=
  ∃ ao cap,e=.returned (.tuple #[nodeV 1 (l.getD 0 0) (l.getD 1 0) (l.getD 2 0) (l.getD 3 0) (singleP l fs) (doubleP l fs),.slice ao 0 cap])∧Below w.heap.size w w'
theorem results_2c {fn:Func} {p a:Tmp} {ty:TypeId} (h:fn.results=#[.cell p ty,.tmp a]) (tmps:Array Value) {ad:Addr} (ha:tmps.getD p undef=.pointer (some ad)) (P:Program) (w:World) {x:Value} (hl:(loadVar ty ad).run P w=.ok x w) :
    (results fn tmps).run P w=.ok (.tuple #[x,tmps.getD a undef]) w:=by
  have ha':tmps[p]?.getD undef=Value.pointer (some ad):=by simpa using ha
  simp only [results,h]
  simp [Sem.run_bind,Result.andThen,asAddr,ha',hl]
set_option maxRecDepth 100000 in
set_option maxHeartbeats 1600000 in
theorem plan_none {w:World} {ao bo:Option Addr} {len cap n c:Nat} {l fs:List Int} (hA:IArg w ao len cap l) (hF:IArg w bo n c fs) (hok:ptrsOk l=true) (hn:needP l≤n) (hE:freshErr fs (needP l) l=0) (hw:writesP l fs=[]) :
    Calls Tryz.prog 68 #[.int .i64 1,.slice ao len cap,.slice bo n c] w (PlanNone w l fs):=by
  have HP:Hid (∀ W,Below w.heap.size w W→Calls Tryz.prog 112 #[.slice ao len cap,.slice bo n c] W fun e w'=>∃ ro rc,e=.returned (.tuple #[nodeV 1 (l.getD 0 0) (l.getD 1 0) (l.getD 2 0) (l.getD 3 0) (singleP l fs) (doubleP l fs),.slice ro 0 rc,.int .i64 0])∧Below W.heap.size W w'):=Lib.hid (fun W hW=>by
    refine (PlanOk_any ⟨hA.later hW,hF.later hW,hok⟩ hn hE).mono ?_
    rintro e w' ⟨v,rfl,hv,hb⟩
    rw [hw] at hv
    obtain ⟨xs,ho,_⟩:=hv
    obtain ⟨ro,rc,rfl⟩:=owns_shape_r ho
    exact ⟨ro,rc,rfl,hb⟩)
  clear hA hF hok hn hE hw
  unfold PlanNone
  generalize l.getD 0 0=d0 at *
  generalize l.getD 1 0=d1 at *
  generalize l.getD 2 0=d2 at *
  generalize l.getD 3 0=d3 at *
  generalize singleP l fs=s at *
  generalize doubleP l fs=t at *
  unfold nodeV nodeCs at *
  have HB1:Hid (Below w.heap.size w (w.alloc (.cells nodeZ 68))):=Lib.hid ((Below.refl _ _).alloc (Nat.le_refl _) _)
  unfold nodeZ at HB1
  go_enter Tryz.func68,Tryz.ntmps68
  go_wp2_with (first
    | (go_at_call 112;refine (HP.out _ HB1.out).mono ?_;rintro e w2 ⟨ro,rc,rfl,hb2⟩;have HB2:=Lib.hid hb2;clear hb2)
    | (refine wpList_store_mid rfl 68 (.tmp 6) (.tmp 16) rfl w.heap.size 0 #[.int .i64 0,.int .i64 1,.int .i64 0,.int .i64 0,.int .i64 d0,.int .i64 d1,.int .i64 d2,.int .i64 d3,.int .i64 s,.int .i64 t,.slice none 0 0,.int .i64 0] rfl rfl (there_newC HB2.out rfl) (by kernel_rfl) (one_node ..) ?_
       have HT2:=Lib.hid (there_newC HB2.out rfl:w2.there w.heap.size 0 12)
       generalize hW3:w2.setCells w.heap.size 0 (#[.int .i64 0,.int .i64 1,.int .i64 0,.int .i64 0,.int .i64 d0,.int .i64 d1,.int .i64 d2,.int .i64 d3,.int .i64 s,.int .i64 t,.slice none 0 0,.int .i64 0]:Array Value).toList=W3
       have HR3:Hid (W3.rangeAt w.heap.size 0 [.int .i64 0,.int .i64 1,.int .i64 0,.int .i64 0,.int .i64 d0,.int .i64 d1,.int .i64 d2,.int .i64 d3,.int .i64 s,.int .i64 t,.slice none 0 0,.int .i64 0]):=Lib.hid (by rw [← hW3];exact World.rangeAt_setCells_same _ _ _ _ HT2.out)
       have HT3:Hid (W3.there w.heap.size 0 12):=Lib.hid (by rw [← hW3];exact World.there_setCells HT2.out _ _ _)
       have HB3:Hid (Below w.heap.size w W3):=Lib.hid (by rw [← hW3];exact below_cells _ (Nat.le_refl _) _ _ _ (below_new HB2.out))
       clear hW3)
    | (refine wpList_load_mid rfl 68 (.tmp 6) rfl w.heap.size 0 rfl [.int .i64 0,.int .i64 1,.int .i64 0,.int .i64 0,.int .i64 d0,.int .i64 d1,.int .i64 d2,.int .i64 d3,.int .i64 s,.int .i64 t,.slice none 0 0,.int .i64 0] _ HR3.out Tryz.underlying68 rfl (by kernel_rfl) ?_)
    | (go_at_call 114;refine (mustN_any ⟨0,1,0,0,d0,d1,d2,d3,s,t,[],0⟩ none 0 0 _).mono ?_;rintro e w4 ⟨rfl,hb⟩;have HB4:=Lib.hid hb;clear hb;unfold PNode.val;dsimp only)
    | (refine wpList_store_mid rfl 68 (.tmp 6) (.tmp 34) rfl w.heap.size 0 #[.int .i64 0,.int .i64 1,.int .i64 0,.int .i64 0,.int .i64 d0,.int .i64 d1,.int .i64 d2,.int .i64 d3,.int .i64 s,.int .i64 t,.slice none 0 0,.int .i64 0] rfl rfl (there_laterT HB4.out HT3.out (by have:=World.block_lt_of_cell? _ _ (HR3.out 0 _ rfl);exact this)) (by kernel_rfl) (one_node ..) ?_))
  have hlt:w.heap.size < W3.heap.size:=World.block_lt_of_cell? _ _ (HR3.out 0 _ rfl)
  refine bodyPost_ret (results_2c rfl _ rfl _ _ (load_node (n:=⟨0,1,0,0,d0,d1,d2,d3,s,t,[],0⟩) (World.rangeAt_setCells_same _ _ _ _ (there_laterT HB4.out HT3.out hlt)))) rfl ⟨ro,rc,rfl,below_cells _ (Nat.le_refl _) _ _ _ (HB3.out.trans (HB4.out.mono HB3.out.size))⟩
end Go.Proofs.YtcefmpnijjcekaaGreatDoor
namespace Go.Proofs.YtcefmpnijjcekaaGreatDoor
open Go.RowKit
def z64:List Int:=List.replicate 64 0
def rootN (f:Int):PNode:={ noNode with k:=2,f:=f,l:=1 }
def freeNodes (B:List (List Int)):Nat→List (List Int)
  | 0=>B
  | n+1=>withNode (freeNodes B n) n noNode
def emptyP (size:Nat) (f:Int):List (List Int):=
  withNode (freeNodes (withFlags ((withSuper (List.replicate size z64) ⟨size,f,0,0,0⟩).set 1 (headBlock ⟨0,1⟩)) (markP (List.replicate 60 0) true [(0,59)])) 32) 0 (rootN f)
theorem withNode_length (B:List (List Int)) (n:Nat) (x:PNode):(withNode B n x).length=B.length:=by unfold withNode;rw [List.length_set]
theorem withFlags_length (B:List (List Int)) (f:List Int):(withFlags B f).length=B.length:=by unfold withFlags;rw [List.length_set]
theorem withSuper_length (B:List (List Int)) (s:PSup):(withSuper B s).length=B.length:=by unfold withSuper;rw [List.length_set]
theorem infoB:(Tryz.prog.info? 84).map (fun i=>(i.zero,i.size,i.bytes))=some (some (.agg zeroB),64,64):=by kernel_rfl
theorem run_make_blks (w:World) (n:Nat) (hn:n≤480):(Instr.makeSlice 52 (.int .i64 (n:Int)) (.int .i64 (n:Int))).run Tryz.prog w =
    .ok (.slice (some ⟨w.heap.size,0,none⟩) n n) (w.alloc (.cells (madeCells zeroB (n * 64)) 84)):=by
  obtain ⟨i0,hi,hz0,hz1,hz2⟩:=info_parts infoB
  have h:=run_make (P:=Tryz.prog) w 52 84 i0 (.agg zeroB) Tryz.underlying52 hi hz0 .i64 .i64 (n:Int) (n:Int) (by omega) (Int.le_refl _) (by rw [hz2];omega) (by omega)
  rw [hz1] at h
  simpa [Value.cells] using h
theorem repl0 (n r:Nat):(List.replicate n (0:Int)).getD r 0=0:=by
  rw [List.getD_eq_getElem?_getD,List.getElem?_replicate]
  split <;> rfl
theorem zeros_all (n:Nat):All64 (List.replicate n z64):=fun c hc=>by
  rw [List.eq_of_mem_replicate hc]
  exact ⟨by unfold z64;simp,fun z hz=>by unfold z64 at hz;rw [List.eq_of_mem_replicate hz];decide⟩
theorem made_rw (w:World) (n:Nat):Rw (w.alloc (.cells (madeCells zeroB (n * 64)) 84)) w.heap.size (List.replicate n z64):=by
  have h64:zeroB.size=64:=by decide
  refine ⟨zeros_all n,fun j hj=>?_,fun j=>by rw [World.frozen?_alloc_mark];simp⟩
  rw [flatten_len (zeros_all n),List.length_replicate] at hj
  rw [World.cell?_alloc_new]
  obtain ⟨q,r,h6,rfl⟩:∃ q r,r < 64∧j=q * 64+r:=⟨j / 64,j%64,by omega,by omega⟩
  rw [flatten_at (zeros_all n) q r h6]
  have e1:(List.replicate n z64).getD q []=z64:=by simp [List.getD,List.getElem?_replicate,show q < n by omega]
  have e2:z64.getD r 0=0:=repl0 64 r
  have e:(q * 64+r)%64=r:=by omega
  rw [e1,e2]
  unfold madeCells
  rw [Array.getElem?_map,Array.getElem?_range,if_pos hj]
  simp only [Option.map_some,h64,e]
  rw [getElem!_pos zeroB r (by rw [h64];exact h6)]
  have h3:zeroB[r]?=some (.int .u8 0):=by
    unfold zeroB
    rw [List.getElem?_toArray,bys_at (by rw [List.length_replicate];exact h6),repl0]
  rw [Array.getElem?_eq_getElem (by rw [h64];exact h6)] at h3
  exact h3
def StI (base:Nat) (w0:World) (p g n:Nat) (L:List (List Int)) (W:World):Prop:=
  W.cell? ⟨p,0,none⟩=some (.slice (some ⟨g,0,none⟩) n n)∧Rw W g L∧L.length=n∧p≠g∧base≤g∧Below base w0 W
theorem StI.step {base:Nat} {w0 W W':World} {p g n:Nat} {L L':List (List Int)} (h:StI base w0 p g n L W) (hb:base≤W.heap.size) (hR:Rw W' g L') (hl:L'.length=L.length) (hG:Grew (fun k=>k=g) (fun k=>k=g) W W'):StI base w0 p g n L' W':=by
  obtain ⟨h1,h2,h3,h4,h5,h6⟩:=h
  refine ⟨?_,hR,by rw [hl,h3],h4,h5,hG.below h6 hb (fun k e=>by omega)⟩
  rw [cell_of_heap (p:=⟨p,0,none⟩) (hG.block (World.block_lt_of_cell? _ _ h1) h4)]
  exact h1
theorem StI.later {base:Nat} {w0 W W':World} {p g n:Nat} {L:List (List Int)} (h:StI base w0 p g n L W) (h0:0 < n) (hb:Below W.heap.size W W') (hs:base≤W.heap.size):StI base w0 p g n L W':=by
  obtain ⟨h1,h2,h3,h4,h5,h6⟩:=h
  exact ⟨cell_later hb h1,h2.later (by omega) hb,h3,h4,h5,h6.trans (hb.mono hs)⟩
def Byt (l:List Int):Prop:=∀ z ∈ l,0≤z∧z≤255
theorem Byt.append {a b:List Int} (h:Byt a) (k:Byt b):Byt (a ++ b):=fun z hz=>by
  rcases List.mem_append.1 hz with hz | hz
  · exact h z hz
  · exact k z hz
theorem byt_le (n:Int) (k:Nat):Byt (leB n k):=leB_bytes n k
theorem Byt.pad {k:Nat} {l:List Int} (h:Byt l):Byt (pad k l):=h.append (fun z hz=>by rw [List.eq_of_mem_replicate hz];decide)
theorem byt_ex (l:List PX):Byt (exB l):=fun z hz=>by
  unfold exB at hz
  obtain ⟨x,_,hz⟩:=List.mem_flatMap.1 hz
  exact (((byt_le _ _).append (byt_le _ _)).append (byt_le _ _)) z hz
theorem node32_byt (n:PNode):Byt (node32 n):=by
  have h1:Byt (nodeH n):=(((((byt_le _ _).append (byt_le _ _)).append (byt_le _ _))).append (byt_le _ _))
  have h2:Byt (nodeP n):=((((((byt_le _ _).append (byt_le _ _)).append (byt_le _ _))).append (byt_le _ _)).append (byt_le _ _)).append (byt_le _ _)
  unfold node32
  refine Byt.append ?_ (byt_le _ _)
  unfold node28
  refine Byt.pad ?_
  split
  · exact ((h1.append (byt_ex _)).pad).append (byt_le _ _)
  · exact h1.append h2
theorem node32_len {n:PNode} (h:n.x.length≤3):(node32 n).length=32:=node32_length n (node28_length h)
theorem noNode_ok:noNode.sound=true∧noNode.small∧noNode.x.length≤3:=⟨by decide,by unfold PNode.small noNode u16;simp,by decide⟩
theorem root_ok {f:Int} (h:1≤f∧f≤2):(rootN f).sound=true∧(rootN f).small∧(rootN f).x.length≤3:=by
  obtain rfl | rfl:f=1∨f=2:=by omega
  · exact ⟨by decide,by unfold PNode.small rootN noNode u16;simp,by decide⟩
  · exact ⟨by decide,by unfold PNode.small rootN noNode u16;simp,by decide⟩
theorem sti_super {base:Nat} {w0 W:World} {p g n:Nat} {L:List (List Int)} (s:PSup) (hs:s.sound=true) (h:StI base w0 p g n L W) (hb:base≤W.heap.size) (h0:0 < n) :
    Calls Tryz.prog 38 #[.pointer (some ⟨p,0,none⟩),s.val] W fun e w'=>e=.returned (.tuple #[])∧StI base w0 p g n (withSuper L s) w':=
  (setSuper_any s hs h.1 h.2.1 h.2.2.1 h0).mono fun e w' ⟨he,hR,hG⟩=>⟨he,h.step hb hR (withSuper_length _ _) hG⟩
theorem sti_put {base:Nat} {w0 W:World} {p g n i c2:Nat} {L:List (List Int)} {ao:Option Addr} {zs:List Int} (h:StI base w0 p g n L W) (hb:base≤W.heap.size) (hi:i < n) (hA:Arg W ao 64 c2 zs) :
    Calls Tryz.prog 56 #[.pointer (some ⟨p,0,none⟩),.int .i64 i,.slice ao 64 c2] W fun e w'=>e=.returned (.tuple #[])∧StI base w0 p g n (L.set i zs) w':=
  (put_any h.1 h.2.1 h.2.2.1 hi hA).mono fun e w' ⟨he,hR,hG⟩=>⟨he,h.step hb hR (List.length_set ..) hG⟩
theorem sti_flags {base:Nat} {w0 W:World} {p g n c2:Nat} {L:List (List Int)} {ao:Option Addr} {f:List Int} (h:StI base w0 p g n L W) (hb:base≤W.heap.size) (hi:2 < n) (hA:Arg W ao 60 c2 f) :
    Calls Tryz.prog 33 #[.pointer (some ⟨p,0,none⟩),.slice ao 60 c2] W fun e w'=>e=.returned (.tuple #[])∧StI base w0 p g n (withFlags L f) w':=
  (setFlags_any h.1 h.2.1 h.2.2.1 hi hA).mono fun e w' ⟨he,hR,hG⟩=>⟨he,h.step hb hR (withFlags_length _ _) hG⟩
theorem sti_node {base:Nat} {w0 W:World} {p g n:Nat} {L:List (List Int)} (k:Nat) (x:PNode) {xo:Option Addr} {m xc:Nat} (hs:x.sound=true∧x.small∧x.x.length≤3) (hX:XIs W xo m x.x) (hcap:m≤xc∧xc≤9223372036854775807) (h:StI base w0 p g n L W) (hb:base≤W.heap.size) (hi:18 < n) (hk:k < 32) :
    Calls Tryz.prog 63 #[.pointer (some ⟨p,0,none⟩),.int .i64 k,x.val (.slice xo m xc)] W fun e w'=>e=.returned (.tuple #[])∧StI base w0 p g n (withNode L k x) w':=
  (setNode_any k x hs.1 hs.2.1 hX hcap ⟨node32_len hs.2.2,node32_byt x⟩ h.1 h.2.1 h.2.2.1 hi hk).mono fun e w' ⟨he,hR,hG⟩=>⟨he,h.step hb hR (withNode_length _ _ _) hG⟩
theorem StI.size {base:Nat} {w0 W:World} {p g n:Nat} {L:List (List Int)} (h:StI base w0 p g n L W):w0.heap.size≤W.heap.size:=h.2.2.2.2.2.size
set_option maxRecDepth 100000 in
set_option maxHeartbeats 3200000 in
theorem makes_ok (n:Nat) (f:Int) (w:World) (h0:64≤n) (h1:n≤480) (hf:1≤f∧f≤2) :
    Calls Tryz.prog 26 #[.int .i64 n,.int .i64 f] w fun e w'=>∃ a F',e=.returned (.tuple #[.pointer (some a),.int .i64 0])∧ImgI w' a F' ⟨emptyP n f,emptyP n f,emptyP n f⟩∧(∀ k,F' k→w.heap.size≤k)∧Below w.heap.size w w':=by
  have c1:=iwithin_any n 64 480 w
  have c2:=iwithin_any f 1 2 w
  rw [show inI n 64 480=true from decide_eq_true (by omega)] at c1
  rw [show inI f 1 2=true from decide_eq_true hf] at c2
  have hmk:=run_make_blks w n h1
  have HS:Hid (PSup.sound ⟨(n:Int),f,0,0,0⟩=true):=Lib.hid (decide_eq_true (by dsimp only;omega))
  have HF:=Lib.hid hf
  have HRW:=Lib.hid (made_rw w n)
  have HB1:Hid (Below w.heap.size w (w.alloc (.cells (madeCells zeroB (n * 64)) 84))):=Lib.hid ((Below.refl _ _).alloc (Nat.le_refl _) _)
  have HSZ:Hid ((w.alloc (.cells (madeCells zeroB (n * 64)) 84)).heap.size=w.heap.size+1):=Lib.hid (by simp)
  generalize hw1:w.alloc (.cells (madeCells zeroB (n * 64)) 84)=w1 at *
  clear hw1
  have HST:Hid (StI w.heap.size w w1.heap.size w.heap.size n (List.replicate n z64) (w1.alloc (.cells #[.slice (some ⟨w.heap.size,0,none⟩) n n,.slice none 0 0] 78))):=Lib.hid
    ⟨by simp,HRW.out.later (by simp;omega) ((Below.refl _ _).alloc (Nat.le_refl _) _),by simp,by have:=HSZ.out;omega,Nat.le_refl _,HB1.out.alloc (by have:=HSZ.out;omega) _⟩
  generalize hp:w1.heap.size=p at *
  have HHD:Hid (∀ W,Calls Tryz.prog 58 #[.agg #[.int .i64 0,.int .i64 1]] W (Handed W.heap.size W (headBlock ⟨0,1⟩) 0)):=Lib.hid (fun W=>by
    have h:=sput_any ⟨0,1⟩ W (by unfold PHead.in64 i64w;simp)
    unfold headOut headErr at h
    rw [show PHead.sound ⟨0,1⟩=true from by decide,if_pos rfl,if_pos rfl] at h
    exact h)
  have HH64:Hid ((headBlock ⟨0,1⟩).length=64):=Lib.hid (sealAny_length _ _)
  have HH0:Hid (headBlock ⟨0,1⟩≠[]):=Lib.hid (fun h=>by have:=sealAny_length sumS (headB ⟨0,1⟩);rw [show sealOf sumS (headB ⟨0,1⟩)=[] from h] at this;cases this)
  have HM0:Hid (markP (List.replicate 60 0) true [(0,59)]≠[]):=Lib.hid (fun h=>by have:=markP_length (List.replicate 60 0) true [(0,59)];rw [h] at this;cases this)
  have HMK:Hid (∀ (W:World) (g o k:Nat),Arg W (some ⟨g,o,none⟩) 60 k (List.replicate 60 0)→Calls Tryz.prog 59 #[.slice (some ⟨g,o,none⟩) 60 k,.bool true,.slice (some ⟨W.heap.size,0,none⟩) 1 1] (W.alloc (.cells #[.complex .f64 (floatOfInt .f64 0) (floatOfInt .f64 59)] 97)) (Handed (W.alloc (.cells #[.complex .f64 (floatOfInt .f64 0) (floatOfInt .f64 59)] 97)).heap.size (W.alloc (.cells #[.complex .f64 (floatOfInt .f64 0) (floatOfInt .f64 59)] 97)) (markP (List.replicate 60 0) true [(0,59)]) 0)):=Lib.hid (fun W g o k hA=>
    markAll_any (some ⟨g,o,none⟩) k _ true (some ⟨W.heap.size,0,none⟩) 1 1 [.complex .f64 (floatOfInt .f64 0) (floatOfInt .f64 59)] [(0,59)] _ (hA.later ((Below.refl _ _).alloc (Nat.le_refl _) _)) ⟨rfl,by decide,Or.inr ⟨W.heap.size,0,rfl,fun j v hj=>by
      match j,hj with
      | 0,hj=>cases Option.some.inj hj;simp
      | j+1,hj=>simp at hj⟩⟩ ⟨rfl,fun j v q hj hq=>by
      match j,hj,hq with
      | 0,hj,hq=>cases Option.some.inj hj;cases Option.some.inj hq;exact ⟨_,_,rfl,fi_ofInt _ (by decide),fi_ofInt _ (by decide)⟩
      | j+1,hj,hq=>simp at hj⟩ (fun r hr=>by rw [List.mem_singleton.1 hr];decide) (by decide))
  go_enter Tryz.func26,Tryz.ntmps26
  go_wp2_with (first
    | (go_at_call 43;first | ((with_reducible refine c1.mono ?_);rintro e w' ⟨rfl,rfl⟩) | ((with_reducible refine c2.mono ?_);rintro e w' ⟨rfl,rfl⟩))
    | (go_at_call 38;refine (sti_super ⟨(n:Int),f,0,0,0⟩ HS.out HST.out HST.out.size (by omega)).mono ?_;rintro e w2 ⟨rfl,hst⟩;have HST2:=Lib.hid hst;clear hst)
    | (go_at_call 58;refine (HHD.out w2).mono ?_;rintro e w3 ⟨v3,rfl,hf3,hb3⟩;obtain ⟨g3,o3,k3,rfl,hA3,_⟩:=fresh_slice hf3 HH0.out;rw [HH64.out] at hA3 ⊢;have HA3:=Lib.hid hA3;have HST3:=Lib.hid (HST2.out.later (by omega) hb3 HST2.out.size);clear hf3 hb3 hA3)
    | (go_at_call 57;refine (mustB_any _ _).mono ?_;rintro e w' ⟨rfl,rfl⟩)
    | (go_at_call 56;refine (sti_put (i:=1) HST3.out HST3.out.size (by omega) HA3.out).mono ?_;rintro e w4 ⟨rfl,hst⟩;have HST4:=Lib.hid hst;clear hst)
    | (go_at_call 60;refine (xNew_any w4).mono ?_;rintro e w5 ⟨v5,rfl,hf5,hb5⟩;obtain ⟨g5,o5,k5,rfl,hA5,_⟩:=fresh_slice hf5 (by simp);rw [List.length_replicate] at hA5 ⊢;have HA5:=Lib.hid hA5;have HST5:=Lib.hid (HST4.out.later (by omega) hb5 HST4.out.size);clear hf5 hb5 hA5)
    | (go_at_call 62;refine (OfF_any 0 59 w5 (by decide) (by decide)).mono ?_;rintro e w' ⟨rfl,rfl⟩)
    | (go_at_call 61;refine (mustC_any _ _).mono ?_;rintro e w' ⟨rfl,rfl⟩)
    | (go_at_call 59;refine (HMK.out w5 _ _ _ HA5.out).mono ?_;rintro e w6 ⟨v6,rfl,hf6,hb6⟩;obtain ⟨g6,o6,k6,rfl,hA6,_⟩:=fresh_slice hf6 HM0.out;rw [markP_length] at hA6 ⊢;have HA6:=Lib.hid hA6;have HST6:=Lib.hid (HST5.out.later (by omega) (((Below.refl w5.heap.size w5).alloc (Nat.le_refl _) _).trans (hb6.mono (by simp))) HST5.out.size);clear hf6 hb6 hA6)
    | (go_at_call 33;refine (sti_flags HST6.out HST6.out.size (by omega) HA6.out).mono ?_;rintro e w7 ⟨rfl,hst⟩;have HST7:=Lib.hid hst;clear hst))
  obtain ⟨L3,hL3⟩:∃ L3,withFlags ((withSuper (List.replicate n z64) ⟨(n:Int),f,0,0,0⟩).set 1 (headBlock ⟨0,1⟩)) (markP (List.replicate 60 0) true [(0,59)])=L3:=⟨_,rfl⟩
  rw [hL3] at HST7
  have HE:Hid (emptyP n f=withNode (freeNodes L3 32) 0 (rootN f)):=Lib.hid (by unfold emptyP;rw [hL3])
  clear hL3 HST HST2 HST3 HST4 HST5 HST6 HA3 HA5 HA6 HMK HHD HH64 HH0 HM0 c1 c2 hmk HRW HB1
  have HJ0:Hid (StI w.heap.size w p w.heap.size n (freeNodes L3 0) w7):=HST7
  go_loopw [40] (fun kv wr=>∃ i:Nat,i≤32∧kv=.int .i64 i∧Hid (StI w.heap.size w p w.heap.size n (freeNodes L3 i) wr)) (fun kv _=>32 - (intOf kv).toNat)
  case atStart=>exact ⟨0,Nat.zero_le _,rfl,HJ0⟩
  case round=>
    obtain ⟨i,hi,rfl,HJ⟩:=hrel
    by_cases hlt:i < 32
    · have i2:(i:Int) < 32:=by omega
      have cN:=sti_node (n:=n) i noNode noNode_ok (xc:=0) (XIs.nil wr) ⟨Nat.le_refl _,by decide⟩ HJ.out HJ.out.size (by omega) hlt
      clear HJ HJ0 HST7
      go_wp2_with (go_at_call 63;refine cN.mono ?_;rintro e w8 ⟨rfl,hst⟩;have HJ8:Hid (StI w.heap.size w p w.heap.size n (freeNodes L3 (i+1)) w8):=Lib.hid hst;clear hst)
      go_roundw
      case rel=>exact ⟨i+1,by omega,by go_num,HJ8⟩
      case measure=>simp [intOf];omega
    · have hit:i=32:=by omega
      subst hit
      have cN:=sti_node (n:=n) 0 (rootN f) (root_ok HF.out) (xc:=0) (XIs.nil wr) ⟨Nat.le_refl _,by decide⟩ HJ.out HJ.out.size (by omega) (by decide)
      clear HJ HJ0 HST7
      go_wp2_with (go_at_call 63;refine cN.mono ?_;rintro e w8 ⟨rfl,hst⟩;have q0:=hst.1;have HJ8:=Lib.hid hst;clear hst)
      refine (iof_any HJ8.out.2.1 HJ8.out.2.2.1 (by omega) h1 (Nat.le_refl _)).mono ?_
      rintro e w9 ⟨a,F',rfl,hI,hF,hb⟩
      have H9:=Lib.hid (And.intro hI (And.intro hF hb))
      clear hI hF hb q0
      go_wp2_with fail
      go_ret2
      have hb8:=HJ8.out.2.2.2.2.2
      refine ⟨a,F',rfl,by rw [HE.out];exact H9.out.1,fun k hk=>?_,hb8.trans (H9.out.2.2.mono hb8.size)⟩
      have:=hb8.size
      rcases H9.out.2.1 k hk with e | e <;> omega
end Go.Proofs.YtcefmpnijjcekaaGreatDoor
