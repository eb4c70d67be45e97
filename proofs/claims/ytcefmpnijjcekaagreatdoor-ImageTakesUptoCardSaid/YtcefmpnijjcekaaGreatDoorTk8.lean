/- Proved here: what the landed image's state answers when its Super, or a node, is set; its end; which blocks are there. The conditions stand at each theorem. Proved here: where the landed image lies (ImgI); what slices.Clone of blocks, none, Settle, Undo and of answer. The conditions stand at each theorem. Proved here: plain facts on flags in bytes, on how many are up, and .. -/
import Derived.Test.YtcefmpnijjcekaaGreatDoorTk7
import Derived.Test.YtcefmpnijjcekaaGreatDoorTk0
import Derived.Test.YtcefmpnijjcekaaGreatDoorTk3
import Derived.Deep.RegionWith
import Derived.Deep.QuietTactic
import Derived.BigQuiet
import Derived.Test.YtcefmpnijjcekaaGreatDoorTk1
set_option linter.unusedVariables false
set_option linter.unusedSimpArgs false
namespace Go.Proofs.YtcefmpnijjcekaaGreatDoor
open Go.RowKit
def endOf (s:PSup):Int:=if s.c=2 then max 59 (min s.a s.e) else s.a
theorem absent_any {w:World} {p q g n cap:Nat} (k:Int) (hp:w.cell? ⟨p,q,none⟩=some (.slice (some ⟨g,0,none⟩) n cap)) :
    Calls Tryz.prog 72 #[.pointer (some ⟨p,q,none⟩),.int .i64 k] w fun e w'=>e=.returned (.bool (decide ((n:Int)≤k)))∧w=w':=by
  go_enter Tryz.func72,Tryz.ntmps72
  go_wp2_with fail
  go_ret
  exact ⟨rfl,rfl⟩
set_option maxRecDepth 100000 in
set_option maxHeartbeats 1600000 in
theorem setSuper_any {w:World} {p q g n cap:Nat} {L:List (List Int)} (s:PSup) (hs:s.sound=true) (hp:w.cell? ⟨p,q,none⟩=some (.slice (some ⟨g,0,none⟩) n cap)) (hR:Rw w g L) (hn:L.length=n) (hi:0 < n) :
    Calls Tryz.prog 38 #[.pointer (some ⟨p,q,none⟩),s.val] w fun e w'=>e=.returned (.tuple #[])∧Rw w' g (withSuper L s)∧Grew (fun k=>k=g) (fun k=>k=g) w w':=by
  have hp0:=World.block_lt_of_cell? _ _ hp
  have hg:=hR.lt (by omega)
  obtain ⟨a,b,c,d,e⟩:=s
  obtain ⟨O,hO⟩:∃ O,supBlock ⟨a,b,c,d,e⟩=O:=⟨_,rfl⟩
  have hO64:O.length=64:=by rw [← hO];exact sealAny_length _ _
  have hin:PSup.in64 ⟨a,b,c,d,e⟩:=by
    have h:=of_decide_eq_true hs
    unfold PSup.in64 i64w
    simp only at h ⊢
    omega
  have HC:Hid (∀ W,Calls Tryz.prog 37 #[.agg #[.int .i64 a,.int .i64 b,.int .i64 c,.int .i64 d,.int .i64 e]] W (Handed W.heap.size W O 0)):=Lib.hid (fun W=>by
    have h:=senc_any ⟨a,b,c,d,e⟩ W hin
    unfold supOut supErr at h
    rw [hs,if_pos rfl,if_pos rfl,hO] at h
    exact h)
  have HW:Hid (withSuper L ⟨a,b,c,d,e⟩=L.set 0 O):=Lib.hid (by unfold withSuper;rw [hO])
  have HO:=Lib.hid hO64
  have HO0:Hid (O≠[]):=Lib.hid (fun h=>by rw [h] at hO64;cases hO64)
  have HP:=Lib.hid hp
  have HR:=Lib.hid hR
  have HN:=Lib.hid hn
  unfold PSup.val
  clear hO hO64 hin hs hp hR hn
  go_enter Tryz.func38,Tryz.ntmps38
  go_wp2_with (first
    | (go_at_call 37;refine (HC.out _).mono ?_;rintro e' w3 ⟨v3,rfl,hf3,hb3⟩;obtain ⟨g3,o3,c3,rfl,hA3,hg3⟩:=fresh_slice hf3 HO0.out;rw [HO.out] at hA3 ⊢;have HA3:=Lib.hid hA3;have HB3:=Lib.hid (((Below.refl w.heap.size w).alloc (Nat.le_refl _) (.cells #[.int .i64 a,.int .i64 b,.int .i64 c,.int .i64 d,.int .i64 e] 36)).trans (hb3.mono (by simp)));clear hf3 hb3 hA3 hg3)
    | (go_at_call 57;refine (mustB_any _ _).mono ?_;rintro e' w4 ⟨rfl,rfl⟩)
    | (go_at_call 56
       refine (put_any (i:=0) (by rw [HB3.out.cell (p:=⟨p,q,none⟩) hp0];exact HP.out) (HR.out.kept (HB3.out.block g hg)) HN.out hi HA3.out).mono ?_
       rintro e' w5 ⟨rfl,hR5,hG5⟩
       have HF:=Lib.hid (And.intro hR5 ((Grew.of_below HB3.out).trans hG5))
       clear hR5 hG5))
  go_end0
  exact ⟨rfl,by rw [HW.out];exact HF.out.1,HF.out.2⟩
theorem lay_bytes:∀ (cs L:List Int) (off:Nat),(∀ z ∈ L,0≤z∧z≤255)→(∀ z ∈ cs,0≤z∧z≤255)→∀ z ∈ lay L off cs,0≤z∧z≤255
  | [],_,_,h,_=>h
  | c::r,L,off,h,hc=>lay_bytes r _ _ (fun z hz=>by
    rcases List.mem_or_eq_of_mem_set hz with hz | rfl
    · exact h z hz
    · exact hc z (by simp)) (fun z hz=>hc z (List.mem_cons_of_mem _ hz))
theorem copy_blk {w:World} {g i d len cap m c:Nat} {L:List (List Int)} {ad:Addr} {zs:List Int} (hR:Rw w g L) (hi:i < L.length) (hd:d+len≤64) (hB:Bts w (some ad) m zs) (hm:m≤len) (ty:TypeId) :
    (Builtin.copy_ #[44,44] ty #[.slice (some ⟨g,i * 64+d,none⟩) len cap,.slice (some ad) m c]).run Tryz.prog w=.ok (.int .i64 m) (w.setCells g (i * 64+d) (bys zs))∧Rw (w.setCells g (i * 64+d) (bys zs)) g (L.set i (lay (L.getD i []) d zs)):=by
  have hl:(bys zs).length=m:=by rw [bys_length,hB.1]
  have hfl:=flatten_len hR.1
  have hc:=hR.1.at hi
  have hr:=run_copy_cells (P:=Tryz.prog) w 44 44 ty 5 g (i * 64+d) len cap ad m c (bys zs) Tryz.underlying44 size5 (by rw [hl];exact (Nat.min_eq_left hm).symm) (bts_news hB rfl)
      (fun j hj=>by rw [hR.2.1 (i * 64+d+j) (by omega)];rfl) (fun j _=>hR.2.2 _) (bys_one zs)
  rw [hl] at hr
  refine ⟨hr,?_⟩
  have hX:(lay (L.getD i []) d zs).length=64∧∀ z ∈ lay (L.getD i []) d zs,0≤z∧z≤255:=⟨by rw [lay_length,hc.1],lay_bytes _ _ _ hc.2 hB.2.2.1⟩
  have hA:=hR.1.set (i:=i) hX
  refine ⟨hA,fun j hj=>?_,fun j=>by rw [frozen_setCells];exact hR.2.2 j⟩
  rw [flatten_len hA,List.length_set] at hj
  rw [setCells_cell g (bys zs) (i * 64+d) w j (fun k h1 h2=>by rw [hR.2.1 k (by rw [hl] at h2;omega)];rfl),hl]
  obtain ⟨q,r,h64,rfl⟩:∃ q r,r < 64∧j=q * 64+r:=⟨j / 64,j%64,by omega,by omega⟩
  rw [flatten_at hA q r h64]
  by_cases e:q=i
  · subst e
    have e1:(L.set q (lay (L.getD q []) d zs)).getD q []=lay (L.getD q []) d zs:=by simp [List.getD,hi]
    rw [e1,lay_get _ _ _ _ (by rw [hc.1,hB.1];omega),hB.1]
    by_cases h2:d≤r∧r < d+m
    · rw [if_pos (by omega),if_pos h2,show q * 64+r - (q * 64+d)=r - d by omega,bys_at (by rw [hB.1];omega)]
    · rw [if_neg (by omega),if_neg h2,hR.2.1 (q * 64+r) (by omega),flatten_at hR.1 q r h64]
  · have e1:(L.set i (lay (L.getD i []) d zs)).getD q []=L.getD q []:=by simp [List.getD,List.getElem?_set,Ne.symm e]
    rw [e1,if_neg (by omega),hR.2.1 (q * 64+r) (by omega),flatten_at hR.1 q r h64]
theorem node32_length (n:PNode) (h:(node28 n).length=28):(node32 n).length=32:=by
  unfold node32
  rw [List.length_append,h,leB_length]
set_option maxRecDepth 100000 in
set_option maxHeartbeats 1600000 in
theorem setNode_any {w:World} {p q g n cap:Nat} {L:List (List Int)} (k:Nat) (x:PNode) {xo:Option Addr} {m xc:Nat} (hs:x.sound=true) (hsm:x.small) (hX:XIs w xo m x.x) (hcap:m≤xc∧xc≤9223372036854775807) (h32:(node32 x).length=32∧∀ z ∈ node32 x,0≤z∧z≤255)
    (hp:w.cell? ⟨p,q,none⟩=some (.slice (some ⟨g,0,none⟩) n cap)) (hR:Rw w g L) (hn:L.length=n) (hi:18 < n) (hk:k < 32) :
    Calls Tryz.prog 63 #[.pointer (some ⟨p,q,none⟩),.int .i64 k,x.val (.slice xo m xc)] w fun e w'=>e=.returned (.tuple #[])∧Rw w' g (withNode L k x)∧Grew (fun k=>k=g) (fun k=>k=g) w w':=by
  have hp0:=World.block_lt_of_cell? _ _ hp
  have hg:=hR.lt (by omega)
  obtain ⟨O,hO⟩:∃ O,node32 x=O:=⟨_,rfl⟩
  rw [hO] at h32
  have HE:Hid (∀ W,Below w.heap.size w W→Calls Tryz.prog 64 #[x.val (.slice xo m xc)] W (Handed W.heap.size W O 0)):=Lib.hid (fun W hW=>by
    have h:=nenc_any x W hsm (hX.later hW) hcap
    unfold nodeOut nodeErr at h
    rw [hs,if_pos rfl,if_pos rfl,hO] at h
    exact h)
  have HH:Hid (∀ W,Below w.heap.size w W→Calls Tryz.prog 49 #[.pointer (some ⟨p,q,none⟩),.int .i64 k] W fun e w'=>e=.returned (.slice (some ⟨g,(3+k / 2) * 64+k%2 * 32,none⟩) 32 (64 - k%2 * 32))∧W=w'):=Lib.hid (fun W hW=>half_any k (by rw [hW.cell (p:=⟨p,q,none⟩) hp0];exact hp) hi hk)
  have HWN:Hid (withNode L k x=L.set (3+k / 2) (lay (L.getD (3+k / 2) []) (k%2 * 32) O)):=Lib.hid (by unfold withNode;rw [hO])
  have HO0:Hid (O≠[]):=Lib.hid (fun h=>by rw [h] at h32;cases h32.1)
  have HO32:=Lib.hid h32.1
  have HOB:=Lib.hid h32.2
  have HR:=Lib.hid hR
  have HN:=Lib.hid hn
  have HK:=Lib.hid hk
  clear hs hsm hX hcap hO h32 hp hR hn
  obtain ⟨k0,f,l,z,d0,d1,d2,d3,s,t,xx,c⟩:=x
  unfold PNode.val at HE ⊢
  dsimp only at HE ⊢
  have HROW:Hid (∀ W,Below (w.alloc (.cells #[.int .i64 k0,.int .i64 f,.int .i64 l,.int .i64 z,.int .i64 d0,.int .i64 d1,.int .i64 d2,.int .i64 d3,.int .i64 s,.int .i64 t,.slice xo m xc,.int .i64 c] 68)).heap.size (w.alloc (.cells #[.int .i64 k0,.int .i64 f,.int .i64 l,.int .i64 z,.int .i64 d0,.int .i64 d1,.int .i64 d2,.int .i64 d3,.int .i64 s,.int .i64 t,.slice xo m xc,.int .i64 c] 68)) W→W.rangeAt w.heap.size 0 [.int .i64 k0,.int .i64 f,.int .i64 l,.int .i64 z,.int .i64 d0,.int .i64 d1,.int .i64 d2,.int .i64 d3,.int .i64 s,.int .i64 t,.slice xo m xc,.int .i64 c]):=Lib.hid (fun W hW j v hj=>by
    rw [hW.cell (p:=⟨w.heap.size,0+j,none⟩) (by simp),Nat.zero_add,World.cell?_alloc_new]
    simpa using hj)
  have HB1:Hid (Below w.heap.size w (w.alloc (.cells #[.int .i64 k0,.int .i64 f,.int .i64 l,.int .i64 z,.int .i64 d0,.int .i64 d1,.int .i64 d2,.int .i64 d3,.int .i64 s,.int .i64 t,.slice xo m xc,.int .i64 c] 68))):=Lib.hid ((Below.refl _ _).alloc (Nat.le_refl _) _)
  go_enter Tryz.func63,Tryz.ntmps63
  go_wp2_with fail
  refine wp_region_held_drew (S:=fun W=>W.rangeAt w.heap.size 0 [.int .i64 k0,.int .i64 f,.int .i64 l,.int .i64 z,.int .i64 d0,.int .i64 d1,.int .i64 d2,.int .i64 d3,.int .i64 s,.int .i64 t,.slice xo m xc,.int .i64 c]) (by kernel_rfl) (HROW.out _ (Below.refl _ _).drew) (fun hHeld=>?_)
  refine wpAnyH_take (i:=0) (oi:=⟨some 6,_,_,_,_,_⟩) (v:=.pointer (some ⟨p,q,none⟩)) rfl (by kernel_rfl) (by kernel_rfl) (by kernel_rfl) (fun _ _ _ h=>h) (Or.inl ⟨by kernel_rfl,fun w _=>rfl⟩) (by assumption) ?_
  try simp only [Act.put,List.setIfInBounds_toArray,List.set_cons_zero,List.set_cons_succ]
  refine wpAnyH_take (i:=1) (oi:=⟨some 7,_,_,_,_,_⟩) (v:=.int .i64 k) rfl (by kernel_rfl) (by kernel_rfl) (by kernel_rfl) (fun _ _ _ h=>h) (Or.inl ⟨by kernel_rfl,fun w _=>rfl⟩) (by assumption) ?_
  try simp only [Act.put,List.setIfInBounds_toArray,List.set_cons_zero,List.set_cons_succ]
  refine wpAnyH_take (i:=3) (oi:={ dst:=some 9,op:=.load 68 (.tmp 5),type:=68,pos := "state.go:97",after:=#[],guard:=none }) rfl (by kernel_rfl) (by kernel_rfl) (by kernel_rfl) (fun _ _ _ h=>h) (yieldsIf_load_mid (by rfl) _ _ rfl _ _ rfl _ _ (fun W h=>h) Tryz.underlying68 rfl (by kernel_rfl)) (by assumption) ?_
  try simp only [Act.put,List.setIfInBounds_toArray,List.set_cons_zero,List.set_cons_succ]
  refine wpAnyH_ready (rs:=[2]) (by kernel_rfl) (by simp) ?_
  refine AllReadyH.cons (o:=⟨some 8,_,_,_,_,_⟩) rfl (fun K hK=>?_) AllReadyH.nil
  go_simp
  go_at_call 49
  refine (HH.out _ HB1.out.drew).mono ?_
  rintro e w2 ⟨rfl,rfl⟩
  refine hK.out _ _ ?_ (fun hHeld1=>?_)
  · exact (HROW.out _ (Below.refl _ _).drew)
  clear hK K
  try simp only [Act.put,List.setIfInBounds_toArray,List.set_cons_zero,List.set_cons_succ]
  refine wpAnyH_ready (rs:=[4]) (by kernel_rfl) (by simp) ?_
  refine AllReadyH.cons (o:=⟨some 10,_,_,_,_,_⟩) rfl (fun K hK=>?_) AllReadyH.nil
  go_simp
  go_at_call 64
  refine (HE.out _ HB1.out.drew).mono ?_
  rintro e w3 ⟨v3,rfl,hf3,hb3⟩
  obtain ⟨g3,o3,c3,rfl,hA3,hg3⟩:=fresh_slice hf3 HO0.out
  rw [HO32.out] at hA3 ⊢
  have HA3:=Lib.hid hA3
  have HB3:=Lib.hid ((Below.refl _ _).drew.trans hb3)
  have HB03:=Lib.hid (HB1.out.trans (HB3.out.mono (by simp)))
  have HC5:=copy_blk (i:=3+k / 2) (d:=k%2 * 32) (len:=32) (cap:=64 - k%2 * 32) (c:=c3) (HR.out.kept (HB03.out.block g hg)) (by rw [HN.out];have:=HK.out;omega) (by omega) HA3.out.1 (by decide) 3
  have HC5:=Lib.hid HC5
  clear hf3 hb3 hA3 hg3
  refine hK.out _ _ ?_ (fun hHeld2=>?_)
  · exact (HROW.out _ HB3.out)
  clear hK K
  try simp only [Act.put,List.setIfInBounds_toArray,List.set_cons_zero,List.set_cons_succ]
  refine wpAnyH_take (i:=5) (oi:=⟨some 11,_,_,_,_,_⟩) (v:=.slice (some ⟨g3,o3,none⟩) 32 c3) rfl (by kernel_rfl) (by kernel_rfl) (by kernel_rfl) (fun _ _ _ h=>h) (Or.inl ⟨by kernel_rfl,by intro w _;go_simp;(try omega)⟩) (by assumption) ?_
  try simp only [Act.put,List.setIfInBounds_toArray,List.set_cons_zero,List.set_cons_succ]
  refine wpAnyH_take (i:=6) (oi:=⟨some 12,_,_,_,_,_⟩) (v:=.int .i64 0) rfl (by kernel_rfl) (by kernel_rfl) (by kernel_rfl) (fun _ _ _ h=>h) (Or.inl ⟨by kernel_rfl,by intro w _;go_simp;(try omega)⟩) (by assumption) ?_
  try simp only [Act.put,List.setIfInBounds_toArray,List.set_cons_zero,List.set_cons_succ]
  refine wpAnyH_ready (rs:=[7]) (by kernel_rfl) (by simp) ?_
  refine AllReadyH.cons (o:=⟨some 13,_,_,_,_,_⟩) rfl (fun K hK=>?_) AllReadyH.nil
  go_simp
  go_at_call 57
  refine (mustB_any _ _).mono ?_
  rintro e w4 ⟨rfl,rfl⟩
  refine hK.out _ _ ?_ (fun hHeld3=>?_)
  · exact (HROW.out _ HB3.out)
  clear hK K
  try simp only [Act.put,List.setIfInBounds_toArray,List.set_cons_zero,List.set_cons_succ]
  refine wpAnyH_ready (rs:=[8]) (by kernel_rfl) (by simp) ?_
  refine AllReadyH.cons (o:=⟨some 14,_,_,_,_,_⟩) rfl (fun K hK=>?_) AllReadyH.nil
  go_simp
  refine hK.out _ _ ?_ (fun hHeld4=>?_)
  · exact (fun j v hj=>by rw [cell_of_heap (p:=⟨w.heap.size,0+j,none⟩) (heap_setCells _ _ _ _ _ (by show w.heap.size≠g;omega))];exact HROW.out _ HB3.out j v hj)
  clear hK K
  try simp only [Act.put,List.setIfInBounds_toArray,List.set_cons_zero,List.set_cons_succ]
  refine wpAnyH_done (by kernel_rfl) ?_ _
  go_wp2_with fail
  go_end0
  refine ⟨rfl,?_,?_⟩
  · rw [HWN.out]
    exact HC5.out.2
  · exact (Grew.of_below HB03.out).trans (Grew.setCells (fun k=>k=g) rfl _ _ _)
end Go.Proofs.YtcefmpnijjcekaaGreatDoor
namespace Go.Proofs.YtcefmpnijjcekaaGreatDoor
open Go.RowKit
structure Img where
  bl:List (List Int)
  ly:List (List Int)
  st:List (List Int)
structure ImgAt (w:World) (p gb gl gs cb cl cs:Nat) (I:Img):Prop where
  c0:w.cell? ⟨p,0,none⟩=some (.slice (some ⟨gb,0,none⟩) I.bl.length cb)
  c1:w.cell? ⟨p,1,none⟩=some (.slice (some ⟨gl,0,none⟩) I.ly.length cl)
  c2:w.cell? ⟨p,2,none⟩=some (.slice (some ⟨gs,0,none⟩) I.st.length cs)
  fr:∀ j,w.frozen? ⟨p,j,none⟩=false
  rb:Rw w gb I.bl
  rl:Rw w gl I.ly
  rs:Rw w gs I.st
  n0:0 < I.bl.length∧I.bl.length≤480
  nl:I.ly.length=I.bl.length
  ns:0 < I.st.length∧I.st.length≤480
  kb:I.bl.length≤cb
  kl:I.ly.length≤cl
  ks:I.st.length≤cs
  d1:p≠gb
  d2:p≠gl
  d3:p≠gs
  d4:gb≠gl
  d5:gb≠gs
  d6:gl≠gs
def FootI (p gb gl gs k:Nat):Prop:=k=p∨k=gb∨k=gl∨k=gs
def ImgI (w:World) (a:Addr) (F:Nat→Prop) (I:Img):Prop:=∃ p gb gl gs cb cl cs,a=⟨p,0,none⟩∧ImgAt w p gb gl gs cb cl cs I∧F=FootI p gb gl gs
theorem ImgAt.lt {w:World} {p gb gl gs cb cl cs:Nat} {I:Img} (h:ImgAt w p gb gl gs cb cl cs I):p < w.heap.size∧gb < w.heap.size∧gl < w.heap.size∧gs < w.heap.size:=
  ⟨World.block_lt_of_cell? _ _ h.c0,h.rb.lt h.n0.1,h.rl.lt (by rw [h.nl];exact h.n0.1),h.rs.lt h.ns.1⟩
theorem ImgAt.kept {w w':World} {p gb gl gs cb cl cs:Nat} {I:Img} (h:ImgAt w p gb gl gs cb cl cs I) (hk:∀ k,FootI p gb gl gs k→w'.heap[k]?=w.heap[k]?):ImgAt w' p gb gl gs cb cl cs I:=by
  have hp:=hk p (Or.inl rfl)
  have hc:∀ j,w'.cell? ⟨p,j,none⟩=w.cell? ⟨p,j,none⟩:=fun j=>cell_of_heap (p:=⟨p,j,none⟩) hp
  exact ⟨by rw [hc];exact h.c0,by rw [hc];exact h.c1,by rw [hc];exact h.c2,fun j=>by rw [frozen_of_heap (p:=⟨p,j,none⟩) hp];exact h.fr j,
    h.rb.kept (hk gb (Or.inr (Or.inl rfl))),h.rl.kept (hk gl (Or.inr (Or.inr (Or.inl rfl)))),h.rs.kept (hk gs (Or.inr (Or.inr (Or.inr rfl)))),h.n0,h.nl,h.ns,h.kb,h.kl,h.ks,h.d1,h.d2,h.d3,h.d4,h.d5,h.d6⟩
theorem ImgI.lt {w:World} {a:Addr} {F:Nat→Prop} {I:Img} (h:ImgI w a F I):∀ k,F k→k < w.heap.size:=by
  obtain ⟨p,gb,gl,gs,cb,cl,cs,rfl,h,rfl⟩:=h
  rintro k (rfl | rfl | rfl | rfl)
  · exact h.lt.1
  · exact h.lt.2.1
  · exact h.lt.2.2.1
  · exact h.lt.2.2.2
theorem ImgI.kept {w w':World} {a:Addr} {F:Nat→Prop} {I:Img} (h:ImgI w a F I) (hk:∀ k,F k→w'.heap[k]?=w.heap[k]?):ImgI w' a F I:=by
  obtain ⟨p,gb,gl,gs,cb,cl,cs,rfl,h,rfl⟩:=h
  exact ⟨p,gb,gl,gs,cb,cl,cs,rfl,h.kept hk,rfl⟩
theorem ImgI.later {w w':World} {a:Addr} {F:Nat→Prop} {I:Img} (h:ImgI w a F I) (hb:Below w.heap.size w w'):ImgI w' a F I:=h.kept (fun k hk=>hb.block k (h.lt k hk))
theorem ImgAt.setBl {w w':World} {p gb gl gs cb cl cs:Nat} {I:Img} {L:List (List Int)} (h:ImgAt w p gb gl gs cb cl cs I) (hR:Rw w' gb L) (hl:L.length=I.bl.length) (hg:Grew (fun k=>k=gb) (fun k=>k=gb) w w'):ImgAt w' p gb gl gs cb cl cs { I with bl:=L }:=by
  have hp:=hg.block h.lt.1 h.d1
  have hc:∀ j,w'.cell? ⟨p,j,none⟩=w.cell? ⟨p,j,none⟩:=fun j=>cell_of_heap (p:=⟨p,j,none⟩) hp
  refine ⟨by rw [hc];show _=some (Value.slice _ L.length _);rw [hl];exact h.c0,by rw [hc];exact h.c1,by rw [hc];exact h.c2,fun j=>by rw [frozen_of_heap (p:=⟨p,j,none⟩) hp];exact h.fr j,
    hR,h.rl.kept (hg.block h.lt.2.2.1 (Ne.symm h.d4)),h.rs.kept (hg.block h.lt.2.2.2 (Ne.symm h.d5)),by show 0 < L.length∧L.length≤480;rw [hl];exact h.n0,by show I.ly.length=L.length;rw [hl];exact h.nl,h.ns,by show L.length≤cb;rw [hl];exact h.kb,h.kl,h.ks,h.d1,h.d2,h.d3,h.d4,h.d5,h.d6⟩
theorem Grew.foot {w w':World} {p gb gl gs:Nat} (hg:Grew (fun k=>k=gb) (fun k=>k=gb) w w'):Grew (FootI p gb gl gs) (FootI p gb gl gs) w w':=
  ⟨hg.1,hg.2.1,hg.2.2.1,hg.2.2.2.1,fun k hk hF=>hg.2.2.2.2.1 k hk (fun e=>hF (Or.inr (Or.inl e))),fun k hk=>Or.inl hk⟩
theorem elemBlk:ElemR 52 84 (.agg zeroB) 64 64:=⟨Tryz.underlying52,by kernel_rfl,rfl,by decide,by decide⟩
def Cloned (w:World) (L:List (List Int)) (e:Ending) (w':World):Prop:=
  ∃ g cap,e=.returned (.slice (some ⟨g,0,none⟩) L.length cap)∧L.length≤cap∧Rw w' g L∧w.heap.size≤g∧g < w'.heap.size∧Below w.heap.size w w'
set_option maxHeartbeats 800000 in
theorem cloneB_any (g n cap:Nat) (L:List (List Int)) (w:World) (hR:Rw w g L) (hn:L.length=n) (h0:0 < n) (h1:n≤480) :
    Calls Tryz.prog 92 #[.slice (some ⟨g,0,none⟩) n cap] w (Cloned w L):=by
  have HL:=Lib.hid hn
  have HA:=Lib.hid hR.1
  have HO:Hid ((w.alloc (.cells #[] 84)).ownsRow w.heap.size 84 64 (.slice (some ⟨w.heap.size,0,none⟩) 0 0) 0 []):=Lib.hid (World.ownsRow_made (base:=w.heap.size) (e:=84) (size:=64) w #[] 0 (Nat.le_refl _) (by decide) rfl)
  have HB:Hid (Below w.heap.size w (w.alloc (.cells #[] 84))):=Lib.hid ((Below.refl _ _).alloc (Nat.le_refl _) _)
  have hnil:=fun (w:World)=>Lib.run_eql_slice_nil (P:=Tryz.prog) w 52 84 (some ⟨g,0,none⟩) n cap 0 0 Tryz.underlying52
  have HV2:Hid ((flat L).length=n * 64):=Lib.hid (by rw [flat_length hR.1,hn])
  have HV3:Hid (∀ u ∈ flat L,u.oneCell'=true):=Lib.hid (bys_one _)
  have HV4:Hid (∀ j u,(flat L)[j]?=some u→(w.alloc (.cells #[] 84)).cell? ((⟨g,0,none⟩:Addr).add j)=some u):=Lib.hid (fun j u hj=>by
    rw [Go.WideShapes.add_plain,Nat.zero_add,HB.out.cell (p:=⟨g,j,none⟩) (hR.lt (by omega))]
    obtain ⟨hj2,rfl⟩:=bys_get hj
    exact hR.2.1 j hj2)
  clear hR hn
  go_enter Tryz.func92,Tryz.ntmps92
  go_wp2_with (refine wp_append_r elemBlk rfl (.tmp 5) (.tmp 6) rfl w.heap.size 0 _ [] rfl HO.out ⟨g,0,none⟩ n cap (flat L) HV2.out rfl HV4.out HV3.out (by omega) (by simp) ?_;intro v1 w1 hown1 hg1 hb1;have HO1:=Lib.hid hown1;have HB1:=Lib.hid (HB.out.trans hb1);clear hown1 hg1 hb1)
  go_ret
  have ho:=HO1.out
  rw [Nat.zero_add,List.nil_append] at ho
  obtain ⟨g1,c1,rfl,hc,hl,hg,hlt,hr⟩:=rw_of_owns ho HA.out h0
  exact ⟨g1,c1,by rw [HL.out];rfl,by rw [HL.out];exact hc,hr,hg,hlt,HB1.out⟩
theorem none_of {w:World} {p gb n cb:Nat} (h0:w.cell? ⟨p,0,none⟩=some (.slice (some ⟨gb,0,none⟩) n cb)) (h1:0 < n):Calls Tryz.prog 29 #[.pointer (some ⟨p,0,none⟩)] w fun e w'=>e=.returned (.bool false)∧w=w':=by
  have hn:((n:Int) == 0)=false:=by simp;omega
  go_enter Tryz.func29,Tryz.ntmps29
  go_wp2_with fail
  go_ret
  exact ⟨rfl,rfl⟩
theorem none_at {w:World} {p gb gl gs cb cl cs:Nat} {I:Img} (h:ImgAt w p gb gl gs cb cl cs I):Calls Tryz.prog 29 #[.pointer (some ⟨p,0,none⟩)] w fun e w'=>e=.returned (.bool false)∧w=w':=none_of h.c0 h.n0.1
theorem two_rows {w w2 w3:World} {p g2 g3:Nat} {i k:Nat} {v2 v3:Value} (hp:p < w.heap.size) (hf:∀ j,w.frozen? ⟨p,j,none⟩=false) (hb2:Below w.heap.size w w2) (hb3:Below w2.heap.size (w2.setCell ⟨p,i,none⟩ v2) w3) (hl2:w.heap.size≤g2) (hg2:g2 < w2.heap.size) (hl3:w2.heap.size≤g3) :
    (∀ k',k' < w.heap.size→k'≠p→(w3.setCell ⟨p,k,none⟩ v3).heap[k']?=w.heap[k']?)∧(w3.setCell ⟨p,k,none⟩ v3).heap[g2]?=w2.heap[g2]?∧(w3.setCell ⟨p,k,none⟩ v3).heap[g3]?=w3.heap[g3]?∧(∀ j,(w3.setCell ⟨p,k,none⟩ v3).frozen? ⟨p,j,none⟩=false)∧
      (∀ j,j≠k→j≠i→(w3.setCell ⟨p,k,none⟩ v3).cell? ⟨p,j,none⟩=w.cell? ⟨p,j,none⟩)∧((w.cell? ⟨p,i,none⟩).isSome→i≠k→(w3.setCell ⟨p,k,none⟩ v3).cell? ⟨p,i,none⟩=some v2)∧((w.cell? ⟨p,k,none⟩).isSome→i≠k→(w3.setCell ⟨p,k,none⟩ v3).cell? ⟨p,k,none⟩=some v3):=by
  have hpw2:p < w2.heap.size:=Nat.lt_of_lt_of_le hp hb2.size
  have hcell3:∀ j,w3.cell? ⟨p,j,none⟩=(w2.setCell ⟨p,i,none⟩ v2).cell? ⟨p,j,none⟩:=fun j=>hb3.cell (p:=⟨p,j,none⟩) hpw2
  have hcell2:∀ j,w2.cell? ⟨p,j,none⟩=w.cell? ⟨p,j,none⟩:=fun j=>hb2.cell (p:=⟨p,j,none⟩) hp
  refine ⟨fun k' hk hne=>?_,?_,?_,fun j=>?_,fun j h1 h2=>?_,fun hs hne=>?_,fun hs hne=>?_⟩
  · rw [Below.heap_setCell _ _ _ _ hne,hb3.block k' (by have:=hb2.size;omega),Below.heap_setCell _ _ _ _ hne,hb2.block k' hk]
  · rw [Below.heap_setCell _ _ _ _ (show g2≠p by omega),hb3.block g2 hg2,Below.heap_setCell _ _ _ _ (show g2≠p by omega)]
  · rw [Below.heap_setCell _ _ _ _ (show g3≠p by omega)]
  · rw [World.frozen?_setCell,hb3.frozen (p:=⟨p,j,none⟩) hpw2,World.frozen?_setCell,hb2.frozen (p:=⟨p,j,none⟩) hp]
    exact hf j
  · rw [World.cell?_setCell_other (h:=by intro e;simp at e <;> omega),hcell3,World.cell?_setCell_other (h:=by intro e;simp at e <;> omega),hcell2]
  · obtain ⟨u,hu⟩:=Option.isSome_iff_exists.1 hs
    rw [World.cell?_setCell_other (h:=by intro e;simp at e <;> omega),hcell3]
    exact World.cell?_setCell_same _ _ _ (by rw [hcell2];exact hu)
  · obtain ⟨u,hu⟩:=Option.isSome_iff_exists.1 hs
    exact World.cell?_setCell_same _ _ _ (by rw [hcell3,World.cell?_setCell_other (h:=by intro e;simp at e <;> omega),hcell2];exact hu)
theorem two_grew {w w2 w3:World} {p:Nat} {F':Nat→Prop} {i k:Nat} {v2 v3:Value} (hb2:Below w.heap.size w w2) (hb3:Below w2.heap.size (w2.setCell ⟨p,i,none⟩ v2) w3) (hF:∀ k',F' k'→k'=p∨w.heap.size≤k'):Grew (fun k=>k=p) F' w (w3.setCell ⟨p,k,none⟩ v3):=by
  have g1:Grew (fun k=>k=p) (fun k=>k=p) w (w2.setCell ⟨p,i,none⟩ v2):=(Grew.of_below hb2).trans (Grew.setCell (fun k=>k=p) _ (p:=⟨p,i,none⟩) rfl _)
  have g2:Grew (fun k=>k=p) (fun k=>k=p) w (w3.setCell ⟨p,k,none⟩ v3):=(g1.trans (Grew.of_below (hb3.mono (by simp [World.setCell])))).trans (Grew.setCell (fun k=>k=p) _ (p:=⟨p,k,none⟩) rfl _)
  exact ⟨g2.1,g2.2.1,g2.2.2.1,g2.2.2.2.1,g2.2.2.2.2.1,hF⟩
structure Bare (w:World) (p gb cb:Nat) (L:List (List Int)):Prop where
  c0:w.cell? ⟨p,0,none⟩=some (.slice (some ⟨gb,0,none⟩) L.length cb)
  c1:∃ v,w.cell? ⟨p,1,none⟩=some v
  c2:∃ v,w.cell? ⟨p,2,none⟩=some v
  fr:∀ j,w.frozen? ⟨p,j,none⟩=false
  rb:Rw w gb L
  n0:0 < L.length∧L.length≤480
  kb:L.length≤cb
  d1:p≠gb
set_option maxRecDepth 100000 in
set_option maxHeartbeats 1600000 in
theorem settle_bare {w:World} {p gb cb:Nat} {L:List (List Int)} (h:Bare w p gb cb L) :
    Calls Tryz.prog 50 #[.pointer (some ⟨p,0,none⟩)] w fun e w'=>∃ gl' gs' cl' cs',e=.returned (.tuple #[])∧ImgAt w' p gb gl' gs' cb cl' cs' ⟨L,L,L⟩∧Grew (fun k=>k=p) (fun k=>k=p∨k=gl'∨k=gs') w w':=by
  have cN:=none_of h.c0 h.n0.1
  have c0:=h.c0
  obtain ⟨v1,c1⟩:=h.c1
  obtain ⟨v2,c2⟩:=h.c2
  have f:=h.fr
  have HI:=Lib.hid h
  have hl:=World.block_lt_of_cell? _ _ h.c0
  have hgb:=h.rb.lt h.n0.1
  have HC1:=Lib.hid c1
  have HC2:=Lib.hid c2
  obtain ⟨n,hn⟩:∃ n,L.length=n:=⟨_,rfl⟩
  rw [hn] at c0
  have HN:=Lib.hid hn
  have HC:Hid (∀ W,Rw W gb L→Calls Tryz.prog 92 #[.slice (some ⟨gb,0,none⟩) n cb] W (Cloned W L)):=Lib.hid (fun W hR=>cloneB_any gb n cb L W hR hn (by rw [← hn];exact h.n0.1) (by rw [← hn];exact h.n0.2))
  clear h hn
  go_enter Tryz.func50,Tryz.ntmps50
  go_wp2_with (first | (go_at_call 29;refine cN.mono ?_;rintro e w' ⟨rfl,rfl⟩))
  refine (HC.out w HI.out.rb).mono ?_
  rintro e w2 ⟨g2,c2',rfl,hc2,hr2,hg2,hl2,hb2⟩
  rw [HN.out]
  have q0:=cell_later hb2 c0
  have q1:=cell_later hb2 c1
  have q2:=cell_later hb2 c2
  have qf:∀ j,w2.frozen? ⟨p,j,none⟩=false:=fun j=>by rw [hb2.frozen (p:=⟨p,j,none⟩) hl];exact f j
  have H2:=Lib.hid (And.intro hc2 (And.intro hr2 (And.intro hg2 (And.intro hl2 hb2))))
  clear hc2 hr2 hg2 hl2 hb2 c0 c1 c2 f cN
  go_wp2_with fail
  have hrW:Rw (w2.setCell ⟨p,1,none⟩ (.slice (some ⟨g2,0,none⟩) n c2')) gb L:=HI.out.rb.kept (by rw [Below.heap_setCell _ _ _ _ (Ne.symm HI.out.d1)];exact H2.out.2.2.2.2.block gb hgb)
  refine (HC.out _ hrW).mono ?_
  rintro e w3 ⟨g3,c3',rfl,hc3,hr3,hg3,hl3,hb3⟩
  rw [HN.out]
  have hsz:(w2.setCell ⟨p,1,none⟩ (.slice (some ⟨g2,0,none⟩) n c2')).heap.size=w2.heap.size:=by simp [World.setCell]
  rw [hsz] at hg3 hb3
  have hpw2:p < w2.heap.size:=Nat.lt_of_lt_of_le hl H2.out.2.2.2.2.size
  have r2:w3.cell? ⟨p,2,none⟩=some v2:=by
    rw [hb3.cell (p:=⟨p,2,none⟩) hpw2,World.cell?_setCell_other (h:=by intro e;simp at e)]
    exact q2
  have rf:∀ j,w3.frozen? ⟨p,j,none⟩=false:=fun j=>by rw [hb3.frozen (p:=⟨p,j,none⟩) hpw2,World.frozen?_setCell];exact qf j
  have H3:=Lib.hid (And.intro hc3 (And.intro hr3 (And.intro hg3 (And.intro hl3 hb3))))
  clear hc3 hr3 hg3 hl3 hb3 q0 q1 q2 qf hrW hsz
  go_wp2_with fail
  go_end0
  obtain ⟨hc2,hr2,hg2,hl2,hb2⟩:=H2.out
  obtain ⟨hc3,hr3,hg3,hl3,hb3⟩:=H3.out
  have HH:=HI.out
  obtain ⟨t1,t2,t3,t4,t5,t6,t7⟩:=two_rows (k:=2) (v3:=.slice (some ⟨g3,0,none⟩) n c3') hl HH.fr hb2 hb3 hg2 hl2 hg3
  refine ⟨g2,g3,c2',c3',rfl,⟨?_,?_,?_,t4,HH.rb.kept (t1 gb hgb (Ne.symm HH.d1)),hr2.kept t2,hr3.kept t3,HH.n0,rfl,HH.n0,HH.kb,hc2,hc3,HH.d1,by omega,by omega,by omega,by omega,by omega⟩,two_grew (p:=p) hb2 hb3 (fun k' hk=>?_)⟩
  · rw [t5 0 (by decide) (by decide)];exact HH.c0
  · rw [t6 (by rw [HC1.out];rfl) (by decide)];show some (Value.slice _ n _)=some (Value.slice _ L.length _);rw [HN.out]
  · rw [t7 (by rw [HC2.out];rfl) (by decide)];show some (Value.slice _ n _)=some (Value.slice _ L.length _);rw [HN.out]
  · rcases hk with e | e | e
    · exact Or.inl e
    · exact Or.inr (by omega)
    · exact Or.inr (by omega)
theorem ImgAt.bare {w:World} {p gb gl gs cb cl cs:Nat} {I:Img} (h:ImgAt w p gb gl gs cb cl cs I):Bare w p gb cb I.bl:=⟨h.c0,⟨_,h.c1⟩,⟨_,h.c2⟩,h.fr,h.rb,h.n0,h.kb,h.d1⟩
set_option maxHeartbeats 1600000 in
theorem iof_any {w:World} {gb n cb:Nat} {L:List (List Int)} (hR:Rw w gb L) (hn:L.length=n) (h0:0 < n) (h1:n≤480) (hc:n≤cb) :
    Calls Tryz.prog 20 #[.slice (some ⟨gb,0,none⟩) n cb] w fun e w'=>∃ a F',e=.returned (.pointer (some a))∧ImgI w' a F' ⟨L,L,L⟩∧(∀ k,F' k→k=gb∨w.heap.size≤k)∧Below w.heap.size w w':=by
  have hg:=hR.lt (by omega)
  have HB:Hid (Bare (w.alloc (.cells #[.slice (some ⟨gb,0,none⟩) n cb,.slice none 0 0,.slice none 0 0] 80)) w.heap.size gb cb L):=Lib.hid
    ⟨by simp [hn],⟨.slice none 0 0,by simp⟩,⟨.slice none 0 0,by simp⟩,fun j=>by rw [World.frozen?_alloc_mark];simp,hR.later (by omega) ((Below.refl _ _).alloc (Nat.le_refl _) _),by omega,by omega,by omega⟩
  clear hR hn
  go_enter Tryz.func20,Tryz.ntmps20
  go_wp2_with (go_at_call 50;refine (settle_bare HB.out).mono ?_;rintro e w2 ⟨gl',gs',cl',cs',rfl,hI,hg2⟩;have H2:=Lib.hid (And.intro hI hg2);clear hI hg2)
  go_ret
  have hgr:=H2.out.2
  refine ⟨⟨w.heap.size,0,none⟩,FootI w.heap.size gb gl' gs',rfl,⟨_,_,_,_,_,_,_,rfl,H2.out.1,rfl⟩,fun k hk=>?_,hgr.below ((Below.refl _ _).alloc (Nat.le_refl _) _) (by simp) (fun k e=>by omega)⟩
  rcases hk with e | e | e | e
  · exact Or.inr (by omega)
  · exact Or.inl e
  · rcases hgr.2.2.2.2.2 k (Or.inr (Or.inl e)) with h3 | h3
    · exact Or.inr (by omega)
    · exact Or.inr (by simp at h3;omega)
  · rcases hgr.2.2.2.2.2 k (Or.inr (Or.inr e)) with h3 | h3
    · exact Or.inr (by omega)
    · exact Or.inr (by simp at h3;omega)
end Go.Proofs.YtcefmpnijjcekaaGreatDoor
namespace Go.Proofs.YtcefmpnijjcekaaGreatDoor
def flag (zs:List Int) (n:Nat):Bool:=decide (zs.getD (n / 8) 0 / 2^(n%8)%2=1)
def cnt (f:Nat→Bool):Nat→Nat
  | 0=>0
  | n+1=>cnt f n+(if f n then 1 else 0)
def gaps (has:Nat→Bool) (first n:Nat):Nat→List (Nat × Nat)
  | 0=>if first < n then [(first,n - first)] else []
  | k+1=>if has n then gaps has first (n+1) k else if first < n then (first,n - first)::gaps has (n+1) (n+1) k else gaps has (n+1) (n+1) k
def downs (zs:List Int) (n:Nat):Bool:=!flag zs n
def cntErr (len:Nat) (to:Int):Int:=if len=60 then (if to < 0∨480 < to then 1 else 0) else 2
def cntOut (zs:List Int) (to:Int):Int:=if cntErr zs.length to=0 then (cnt (flag zs) to.toNat:Int) else 0
def downErr (len:Nat) (lo hi:Int):Int:=if len=60 then (if lo < 0∨hi < lo∨480 < hi then 1 else 0) else 2
def downOut (zs:List Int) (lo hi:Int):List (Nat × Nat):=if downErr zs.length lo hi=0 then gaps (downs zs) lo.toNat lo.toNat (hi.toNat - lo.toNat) else []
theorem cnt_le (f:Nat→Bool) (n:Nat):cnt f n≤n:=by
  induction n with
  | zero=>exact Nat.le_refl _
  | succ n ih=>
    show cnt f n+(if f n then 1 else 0)≤n+1
    split <;> omega
theorem cnt_congr {f g:Nat→Bool} {n:Nat} (h:∀ i,i < n→f i=g i):cnt f n=cnt g n:=by
  induction n with
  | zero=>rfl
  | succ n ih=>
    show cnt f n+(if f n then 1 else 0)=cnt g n+(if g n then 1 else 0)
    rw [ih (fun i hi=>h i (by omega)),h n (by omega)]
theorem cnt_not (f:Nat→Bool) (n:Nat):cnt f n+cnt (fun i=>!f i) n=n:=by
  induction n with
  | zero=>rfl
  | succ n ih=>
    show cnt f n+(if f n then 1 else 0)+(cnt (fun i=>!f i) n+(if !f n then 1 else 0))=n+1
    cases f n <;> simp <;> omega
theorem gaps_length (f:Nat→Bool) (k:Nat):∀ first n,(gaps f first n k).length≤k+1:=by
  induction k with
  | zero=>intro first n;unfold gaps;split <;> simp
  | succ k ih=>
    intro first n
    have e1:=ih first (n+1)
    have e2:=ih (n+1) (n+1)
    unfold gaps
    split
    · omega
    · split
      · rw [List.length_cons];omega
      · omega
theorem gaps_mem (f:Nat→Bool) (k:Nat):∀ first n,first≤n→(∀ i,first≤i→i < n→f i=true)→∀ p ∈ gaps f first n k,first≤p.1∧1≤p.2∧p.1+p.2≤n+k∧∀ i,p.1≤i→i < p.1+p.2→f i=true:=by
  induction k with
  | zero=>
    intro first n hle hf p hp
    unfold gaps at hp
    split at hp
    · rw [List.mem_singleton.1 hp]
      exact ⟨Nat.le_refl _,by show 1≤n - first;omega,by show first+(n - first)≤n+0;omega,fun i h1 h2=>hf i h1 (by have:i < first+(n - first):=h2;omega)⟩
    · simp at hp
  | succ k ih=>
    intro first n hle hf p hp
    unfold gaps at hp
    by_cases hn:f n=true
    · rw [if_pos hn] at hp
      have h:=ih first (n+1) (by omega) (fun i h1 h2=>by
        by_cases e:i=n
        · rw [e];exact hn
        · exact hf i h1 (by omega)) p hp
      exact ⟨h.1,h.2.1,by have:=h.2.2.1;omega,h.2.2.2⟩
    · rw [if_neg hn] at hp
      have ih2:p ∈ gaps f (n+1) (n+1) k→first≤p.1∧1≤p.2∧p.1+p.2≤n+(k+1)∧∀ i,p.1≤i→i < p.1+p.2→f i=true:=fun hp=>by
        have h:=ih (n+1) (n+1) (Nat.le_refl _) (fun i h1 h2=>by omega) p hp
        exact ⟨by have:=h.1;omega,h.2.1,by have:=h.2.2.1;omega,h.2.2.2⟩
      split at hp
      · rcases List.mem_cons.1 hp with hp | hp
        · rw [hp]
          exact ⟨Nat.le_refl _,by show 1≤n - first;omega,by show first+(n - first)≤n+(k+1);omega,fun i h1 h2=>hf i h1 (by have:i < first+(n - first):=h2;omega)⟩
        · exact ih2 hp
      · exact ih2 hp
def Rise:Nat→List (Nat × Nat)→Prop
  | _,[]=>True
  | lo,p::r=>lo≤p.1∧Rise (p.1+p.2+1) r
theorem Rise.mono {lo hi:Nat} {l:List (Nat × Nat)} (h:Rise hi l) (hle:lo≤hi):Rise lo l:=by
  cases l with
  | nil=>trivial
  | cons p r=>exact ⟨Nat.le_trans hle h.1,h.2⟩
theorem gaps_rise (f:Nat→Bool) (k:Nat):∀ first n,first≤n→Rise first (gaps f first n k):=by
  induction k with
  | zero=>
    intro first n hle
    unfold gaps
    split
    · exact ⟨Nat.le_refl _,trivial⟩
    · trivial
  | succ k ih=>
    intro first n hle
    unfold gaps
    split
    · exact ih first (n+1) (by omega)
    · split
      · refine ⟨Nat.le_refl _,?_⟩
        show Rise (first+(n - first)+1) _
        have e:first+(n - first)+1=n+1:=by omega
        rw [e]
        exact ih (n+1) (n+1) (Nat.le_refl _)
      · exact (ih (n+1) (n+1) (Nat.le_refl _)).mono (by omega)
def sumG:List (Nat × Nat)→Nat
  | []=>0
  | p::r=>p.2+sumG r
theorem sumG_snoc (l:List (Nat × Nat)) (p:Nat × Nat):sumG (l ++ [p])=sumG l+p.2:=by
  induction l with
  | nil=>show p.2+0=0+p.2;omega
  | cons x l ih=>show x.2+sumG (l ++ [p])=x.2+sumG l+p.2;omega
theorem sumG_take {l:List (Nat × Nat)} {i:Nat} {p:Nat × Nat} (h:l[i]?=some p):sumG (l.take (i+1))=sumG (l.take i)+p.2:=by
  rw [List.take_add_one,h]
  exact sumG_snoc _ _
theorem sumG_take_le (l:List (Nat × Nat)) (i:Nat):sumG (l.take i)≤sumG l:=by
  induction l generalizing i with
  | nil=>simp
  | cons x l ih=>
    cases i with
    | zero=>exact Nat.zero_le _
    | succ i=>show x.2+sumG (l.take i)≤x.2+sumG l;have:=ih i;omega
theorem gaps_sum (f:Nat→Bool) (k:Nat):∀ first n,first≤n→sumG (gaps f first n k)+cnt f n=(n - first)+cnt f (n+k):=by
  induction k with
  | zero=>
    intro first n hle
    unfold gaps
    split
    · show (n - first)+0+cnt f n=_
      rw [Nat.add_zero,Nat.add_zero]
    · show 0+cnt f n=_
      rw [Nat.add_zero n]
      omega
  | succ k ih=>
    intro first n hle
    have e1:=ih first (n+1) (by omega)
    have e2:=ih (n+1) (n+1) (Nat.le_refl _)
    have e3:cnt f (n+1)=cnt f n+(if f n then 1 else 0):=rfl
    have e4:n+(k+1)=n+1+k:=by omega
    unfold gaps
    rw [e4]
    by_cases hn:f n=true
    · rw [if_pos hn]
      rw [if_pos hn] at e3
      omega
    · rw [if_neg hn]
      rw [if_neg hn] at e3
      split
      · show (n - first)+sumG (gaps f (n+1) (n+1) k)+cnt f n=_;omega
      · omega
theorem cnt_range {f g:Nat→Bool} {a b:Nat} (hf:∀ i,a≤i→i < a+b→f i=false) (N:Nat) (hg:∀ n,n < N→g n=if a≤n∧n < a+b then true else f n):cnt g N=cnt f N+(min N (a+b) - min N a):=by
  induction N with
  | zero=>show 0=0+_;simp
  | succ N ih=>
    have ih:=ih (fun n hn=>hg n (by omega))
    have e:=hg N (by omega)
    show cnt g N+(if g N then 1 else 0)=cnt f N+(if f N then 1 else 0)+_
    by_cases h:a≤N∧N < a+b
    · rw [if_pos h] at e
      rw [e,hf N h.1 h.2,ih]
      simp only [if_true,Bool.false_eq_true,if_false]
      omega
    · rw [if_neg h] at e
      rw [e,ih]
      split <;> omega
theorem flag_set {zs:List Int} {n:Nat} {y:Int} {up:Bool} (hn:n / 8 < zs.length) (hy:∀ i,i < 8→y / 2^i%2=if i=n%8 then (if up then 1 else 0) else zs.getD (n / 8) 0 / 2^i%2) (m:Nat) :
    flag (zs.set (n / 8) y) m=if m=n then up else flag zs m:=by
  unfold flag
  rw [getD_set _ _ _ _ hn]
  by_cases h:m / 8=n / 8
  · rw [if_pos h,hy (m%8) (by omega)]
    by_cases h2:m%8=n%8
    · rw [if_pos h2,if_pos (show m=n by omega)]
      cases up <;> rfl
    · rw [if_neg h2,if_neg (show ¬ m=n by intro e;exact h2 (by rw [e])),h]
  · rw [if_neg h,if_neg (show ¬ m=n by intro e;exact h (by rw [e]))]
theorem down_rise (zs:List Int) (lo hi:Int):Rise 0 (downOut zs lo hi):=by
  unfold downOut
  split
  · exact (gaps_rise (downs zs) _ lo.toNat lo.toNat (Nat.le_refl _)).mono (Nat.zero_le _)
  · trivial
theorem all_sum {zs:List Int} {lo hi:Int} (h:downErr zs.length lo hi=0):cntErr zs.length lo=0∧cntErr zs.length hi=0∧(sumG (downOut zs lo hi):Int)+cntOut zs hi - cntOut zs lo=hi - lo∧0≤lo∧lo≤hi∧hi≤480:=by
  have ho:zs.length=60∧0≤lo∧lo≤hi∧hi≤480:=by
    unfold downErr at h
    by_cases hl:zs.length=60
    · rw [if_pos hl] at h
      by_cases hc:lo < 0∨hi < lo∨480 < hi
      · rw [if_pos hc] at h;exact absurd h (by decide)
      · omega
    · rw [if_neg hl] at h;exact absurd h (by decide)
  obtain ⟨hl,h0,h1,h2⟩:=ho
  have c1:cntErr zs.length lo=0:=by unfold cntErr;rw [if_pos hl,if_neg (by omega)]
  have c2:cntErr zs.length hi=0:=by unfold cntErr;rw [if_pos hl,if_neg (by omega)]
  refine ⟨c1,c2,?_,h0,h1,h2⟩
  unfold cntOut downOut
  rw [if_pos h,if_pos c1,if_pos c2]
  have e:=gaps_sum (downs zs) (hi.toNat - lo.toNat) lo.toNat lo.toNat (Nat.le_refl _)
  rw [show lo.toNat+(hi.toNat - lo.toNat)=hi.toNat by omega] at e
  have n1:=cnt_not (flag zs) lo.toNat
  have n2:=cnt_not (flag zs) hi.toNat
  rw [show (fun i=>!flag zs i)=downs zs from rfl] at n1 n2
  omega
end Go.Proofs.YtcefmpnijjcekaaGreatDoor
namespace Go.Proofs.YtcefmpnijjcekaaGreatDoor
def bitV (b:Bool) (k:Nat):Int:=if b=true then 2^k else 0
def byteOf (f:Nat→Bool) (i:Nat):Int:=bitV (f (8 * i)) 0+bitV (f (8 * i+1)) 1+bitV (f (8 * i+2)) 2+bitV (f (8 * i+3)) 3+bitV (f (8 * i+4)) 4+bitV (f (8 * i+5)) 5+bitV (f (8 * i+6)) 6+bitV (f (8 * i+7)) 7
def ofFlags (f:Nat→Bool):List Int:=(List.range 60).map (byteOf f)
theorem eight (b0 b1 b2 b3 b4 b5 b6 b7:Bool):let x:=bitV b0 0+bitV b1 1+bitV b2 2+bitV b3 3+bitV b4 4+bitV b5 5+bitV b6 6+bitV b7 7
    (0≤x∧x≤255)∧decide (x / 2^0%2=1)=b0∧decide (x / 2^1%2=1)=b1∧decide (x / 2^2%2=1)=b2∧decide (x / 2^3%2=1)=b3∧decide (x / 2^4%2=1)=b4∧decide (x / 2^5%2=1)=b5∧decide (x / 2^6%2=1)=b6∧decide (x / 2^7%2=1)=b7:=by
  revert b0 b1 b2 b3 b4 b5 b6 b7
  decide +kernel
theorem byte_back:∀ x:Fin 256,bitV (decide ((x.val:Int) / 2^0%2=1)) 0+bitV (decide ((x.val:Int) / 2^1%2=1)) 1+bitV (decide ((x.val:Int) / 2^2%2=1)) 2+bitV (decide ((x.val:Int) / 2^3%2=1)) 3+bitV (decide ((x.val:Int) / 2^4%2=1)) 4+bitV (decide ((x.val:Int) / 2^5%2=1)) 5+bitV (decide ((x.val:Int) / 2^6%2=1)) 6+bitV (decide ((x.val:Int) / 2^7%2=1)) 7=(x.val:Int):=by
  decide +kernel
theorem ofFlags_length (f:Nat→Bool):(ofFlags f).length=60:=by unfold ofFlags;simp
theorem ofFlags_get (f:Nat→Bool) {i:Nat} (h:i < 60):(ofFlags f).getD i 0=byteOf f i:=by
  unfold ofFlags
  simp [List.getD,h]
theorem flag_ofFlags (f:Nat→Bool) {n:Nat} (h:n < 480):flag (ofFlags f) n=f n:=by
  obtain ⟨i,k,hk,rfl⟩:∃ i k,k < 8∧n=8 * i+k:=⟨n / 8,n%8,by omega,by omega⟩
  unfold flag
  rw [show (8 * i+k) / 8=i by omega,show (8 * i+k)%8=k by omega,ofFlags_get f (by omega)]
  unfold byteOf
  obtain ⟨_,h0,h1,h2,h3,h4,h5,h6,h7⟩:=eight (f (8 * i)) (f (8 * i+1)) (f (8 * i+2)) (f (8 * i+3)) (f (8 * i+4)) (f (8 * i+5)) (f (8 * i+6)) (f (8 * i+7))
  match k,hk with
  | 0,_=>exact h0
  | 1,_=>exact h1
  | 2,_=>exact h2
  | 3,_=>exact h3
  | 4,_=>exact h4
  | 5,_=>exact h5
  | 6,_=>exact h6
  | 7,_=>exact h7
theorem ofFlags_congr {f g:Nat→Bool} (h:∀ n,n < 480→f n=g n):ofFlags f=ofFlags g:=by
  unfold ofFlags
  refine List.map_congr_left (fun i hi=>?_)
  have hi:i < 60:=List.mem_range.1 hi
  unfold byteOf
  rw [h (8 * i) (by omega),h (8 * i+1) (by omega),h (8 * i+2) (by omega),h (8 * i+3) (by omega),h (8 * i+4) (by omega),h (8 * i+5) (by omega),h (8 * i+6) (by omega),h (8 * i+7) (by omega)]
theorem ofFlags_back {L:List Int} (hl:L.length=60) (hz:∀ z ∈ L,0≤z∧z≤255):ofFlags (flag L)=L:=by
  refine List.ext_getElem (by rw [ofFlags_length,hl]) (fun i h1 h2=>?_)
  have hb:=hz _ (List.getElem_mem h2)
  obtain ⟨y,hy⟩:∃ y:Fin 256,L[i]=(y.val:Int):=⟨⟨L[i].toNat,by omega⟩,by show L[i]=(L[i].toNat:Int);omega⟩
  have hg:L.getD i 0=L[i]:=by simp [List.getD,h2]
  have e:(ofFlags (flag L))[i]=byteOf (flag L) i:=by
    have h:=ofFlags_get (flag L) (i:=i) (by omega)
    simpa [List.getD,h1] using h
  rw [e]
  unfold byteOf flag
  rw [show (8 * i) / 8=i by omega,show (8 * i)%8=0 by omega,show (8 * i+1) / 8=i by omega,show (8 * i+1)%8=1 by omega,show (8 * i+2) / 8=i by omega,show (8 * i+2)%8=2 by omega,show (8 * i+3) / 8=i by omega,show (8 * i+3)%8=3 by omega,show (8 * i+4) / 8=i by omega,show (8 * i+4)%8=4 by omega,show (8 * i+5) / 8=i by omega,show (8 * i+5)%8=5 by omega,show (8 * i+6) / 8=i by omega,show (8 * i+6)%8=6 by omega,show (8 * i+7) / 8=i by omega,show (8 * i+7)%8=7 by omega,hg,hy]
  exact byte_back y
def inRuns (rs:List (Nat × Nat)) (n:Nat):Bool:=rs.any fun r=>decide (r.1≤n∧n < r.1+r.2)
def markF (f:Nat→Bool) (up:Bool) (rs:List (Nat × Nat)) (n:Nat):Bool:=if inRuns rs n=true then up else f n
def markP (zs:List Int) (up:Bool) (rs:List (Nat × Nat)):List Int:=ofFlags (markF (flag zs) up rs)
theorem inRuns_snoc (rs:List (Nat × Nat)) (r:Nat × Nat) (n:Nat):inRuns (rs ++ [r]) n=(inRuns rs n||decide (r.1≤n∧n < r.1+r.2)):=by
  unfold inRuns
  rw [List.any_append]
  simp
theorem markP_length (zs:List Int) (up:Bool) (rs:List (Nat × Nat)):(markP zs up rs).length=60:=ofFlags_length _
theorem flag_markP (zs:List Int) (up:Bool) (rs:List (Nat × Nat)) {n:Nat} (h:n < 480):flag (markP zs up rs) n=markF (flag zs) up rs n:=flag_ofFlags _ h
theorem markP_nil {zs:List Int} (up:Bool) (hl:zs.length=60) (hz:∀ z ∈ zs,0≤z∧z≤255):markP zs up []=zs:=by
  unfold markP
  rw [show markF (flag zs) up []=flag zs from funext fun n=>by simp [markF,inRuns],ofFlags_back hl hz]
theorem markP_step {zs L:List Int} {up:Bool} {rs:List (Nat × Nat)} {a j:Nat} (hl:L.length=60) (hz:∀ z ∈ L,0≤z∧z≤255) (hf:∀ m,flag L m=if m=a+j then up else flag (markP zs up (rs ++ [(a,j)])) m):L=markP zs up (rs ++ [(a,j+1)]):=by
  rw [← ofFlags_back hl hz]
  refine ofFlags_congr (fun n hn=>?_)
  rw [hf n,flag_markP zs up _ hn]
  unfold markF
  rw [inRuns_snoc,inRuns_snoc]
  by_cases e:n=a+j
  · subst e
    rw [if_pos rfl,if_pos (by simp)]
  · rw [if_neg e]
    have h2:decide (a≤n∧n < a+j)=decide (a≤n∧n < a+(j+1)):=by
      rw [decide_eq_decide];omega
    show (if (inRuns rs n||decide (a≤n∧n < a+j))=true then up else flag zs n)=_
    rw [h2]
theorem markP_zero (zs:List Int) (up:Bool) (rs:List (Nat × Nat)) (a:Nat):markP zs up (rs ++ [(a,0)])=markP zs up rs:=by
  unfold markP
  refine ofFlags_congr (fun n _=>?_)
  unfold markF
  rw [inRuns_snoc]
  have:decide (a≤n∧n < a+0)=false:=decide_eq_false (by omega)
  show (if (inRuns rs n||decide (a≤n∧n < a+0))=true then _ else _)=_
  rw [this,Bool.or_false]
def runsOf (l:List Int):List (Nat × Nat):=(l.filter fun n=>!decide (n=0)).map fun n=>(n.toNat,1)
def markL (zs:List Int) (up:Bool) (l:List Int):List Int:=markP zs up (runsOf l)
theorem runsOf_snoc (l:List Int) (x:Int):runsOf (l ++ [x])=if x=0 then runsOf l else runsOf l ++ [(x.toNat,1)]:=by
  unfold runsOf
  rw [List.filter_append,List.map_append]
  by_cases h:x=0
  · rw [if_pos h];simp [h]
  · rw [if_neg h];simp [h]
theorem inRuns_of {l:List Int} (h:∀ x ∈ l,0≤x) {n:Nat}:inRuns (runsOf l) n=true ↔ (n:Int) ∈ l∧n≠0:=by
  unfold inRuns runsOf
  rw [List.any_map,List.any_eq_true]
  constructor
  · rintro ⟨x,hx,hd⟩
    obtain ⟨hx,h0⟩:=List.mem_filter.1 hx
    have h0:x≠0:=by simpa using h0
    have hd:=of_decide_eq_true hd
    have hp:=h x hx
    simp only at hd
    have:x=(n:Int):=by omega
    rw [← this]
    exact ⟨hx,by omega⟩
  · rintro ⟨hm,h0⟩
    refine ⟨(n:Int),List.mem_filter.2 ⟨hm,by simp [h0]⟩,decide_eq_true ?_⟩
    simp only
    omega
end Go.Proofs.YtcefmpnijjcekaaGreatDoor
namespace Go.Proofs.YtcefmpnijjcekaaGreatDoor
open Go.RowKit
theorem pow_small {j:Nat} (h:j≤6):(1:Int)≤2^j∧(2:Int)^j≤64:=by
  rcases j with _ | _ | _ | _ | _ | _ | _ | j
  · decide
  · decide
  · decide
  · decide
  · decide
  · decide
  · decide
  · omega
set_option maxHeartbeats 400000 in
theorem power05_any (k:Nat) (w:World) (hk:k≤7) :
    Calls Tryz.prog 53 #[.int .i64 k] w fun e w'=>e=.returned (.int .u8 (2^k))∧w=w':=by
  go_enter Tryz.func53,Tryz.ntmps53
  go_wp2
  go_loop [3,4] (fun pv iv=>∃ (j:Nat) (x:Int),j≤k∧iv=.int .i64 j∧pv=.int .u8 x∧x=2^j) (fun _ iv=>k - (intOf iv).toNat)
  case atStart=>exact ⟨0,1,Nat.zero_le _,rfl,rfl,rfl⟩
  case round=>
    obtain ⟨j,x,hj,rfl,rfl,hx⟩:=hrel
    by_cases hlt:j < k
    · have hs:=pow_small (j:=j) (by omega)
      rw [← hx] at hs
      obtain ⟨h0,h1⟩:=hs
      have HX:=Lib.hid hx
      clear hx
      go_wp2
      go_round
      case rel=>exact ⟨j+1,x * 2,by omega,by go_num,rfl,by rw [HX.out,Int.pow_succ]⟩
      case measure=>simp [intOf];omega
    · have hjk:j=k:=by omega
      subst hjk
      have HX:=Lib.hid hx
      clear hx
      go_wp2
      go_ret
      exact ⟨by rw [HX.out];rfl,rfl⟩
theorem elemBool:Elem 37 4 (.bool false) 1:=⟨Tryz.underlying37,by kernel_rfl,rfl,by decide⟩
theorem elemComplex:Elem 121 97 (.complex .f64 0 0) 16:=⟨Tryz.underlying121,by kernel_rfl,rfl,by decide⟩
def GivesV (base:Nat) (w0:World) (xs:List Value) (e:Ending) (w':World):Prop:=
  ∃ v,e=.returned v∧FreshV w' base v xs∧Below base w0 w'
def boolsV (f:Nat→Bool) (n:Nat):List Value:=(List.range n).map fun i=>Value.bool (f i)
theorem boolsV_length (f:Nat→Bool) (n:Nat):(boolsV f n).length=n:=by unfold boolsV;simp
theorem boolsV_succ (f:Nat→Bool) (n:Nat):boolsV f (n+1)=boolsV f n ++ [.bool (f n)]:=by
  unfold boolsV
  rw [List.range_succ,List.map_append]
  rfl
set_option maxRecDepth 100000 in
set_option maxHeartbeats 800000 in
theorem Up05_any (ao:Option Addr) (cap:Nat) (zs:List Int) (w:World) (hB:Bts w ao 60 zs) :
    Calls Tryz.prog 24 #[.slice ao 60 cap] w (GivesV w.heap.size w (boolsV (flag zs) 480)):=by
  obtain ⟨b,off,rfl,_⟩:=hB.2.2.2.resolve_left (by decide)
  have HB:=Lib.hid hB
  clear hB
  have HO0:=Lib.hid (World.ownsRow_made (base:=w.heap.size) (e:=4) (size:=1) w #[] 0 (Nat.le_refl _) (by decide) rfl)
  have HB0:Hid (Below w.heap.size w (w.alloc (.cells #[] 4))):=Lib.hid ((Below.refl _ _).alloc (Nat.le_refl _) _)
  go_enter Tryz.func24,Tryz.ntmps24
  go_wp2_with fail
  go_loopw [3,4] (fun vv iv wr=>∃ j:Nat,j≤480∧iv=.int .i64 j∧Hid (wr.ownsRow w.heap.size 4 1 vv j (boolsV (flag zs) j))∧Hid (Below w.heap.size w wr)) (fun _ iv _=>480 - (intOf iv).toNat)
  case atStart=>exact ⟨0,Nat.zero_le _,rfl,HO0,HB0⟩
  case round=>
    obtain ⟨j,hj,rfl,HR,HW⟩:=hrel
    by_cases hlt:j < 480
    · have hBw:=(HB.out.later HW.out)
      obtain ⟨b',off',he,hc⟩:=hBw.2.2.2.resolve_left (by decide)
      simp only [Option.some.injEq,Addr.mk.injEq,and_true] at he
      obtain ⟨rfl,rfl⟩:=he
      obtain ⟨q,hq⟩:∃ q:Nat,q=j / 8:=⟨_,rfl⟩
      obtain ⟨r,hr⟩:∃ r:Nat,r=j%8:=⟨_,rfl⟩
      have hq60:q < 60:=by omega
      have hr8:r≤7:=by omega
      have hx:=hBw.2.2.1 _ (getD_mem (l:=zs) (k:=q) (by rw [hBw.1];exact hq60))
      have hcell:wr.drew.cell? ⟨b,off+q,none⟩=some (.int .u8 (zs.getD q 0)):=hc q hq60
      have HF:Hid (flag zs j=decide (zs.getD q 0 / 2^r%2=1)):=Lib.hid (by rw [hq,hr];rfl)
      obtain ⟨x,HX⟩:∃ x,Hid (x=zs.getD q 0):=⟨_,Lib.hid rfl⟩
      rw [← HX.out] at hx hcell HF
      obtain ⟨hx0,hx1⟩:=hx
      clear hBw hc
      obtain ⟨P,HP⟩:∃ P:Int,Hid (P=2^r):=⟨_,Lib.hid rfl⟩
      have cP:=power05_any r wr.drew hr8
      rw [← HP.out] at cP HF
      have hp0:1≤P∧P≤128:=by
        rw [HP.out]
        by_cases h7:r=7
        · rw [h7];decide
        · have:=pow_small (j:=r) (by omega);omega
      obtain ⟨hp0,hp1⟩:=hp0
      have d1:IntKind.i64.wrap ((j:Int) / 8)=(q:Int):=by rw [IntWalk.i64_in _ (by omega)];omega
      have d2:Int.tmod (j:Int) 8=(r:Int):=by rw [Int.tmod_eq_emod_of_nonneg (by omega)];omega
      have hq0:(0:Int)≤(q:Int):=by omega
      have hq6:(q:Int) < 60:=by omega
      clear hq hr
      have hP0:¬ P=0:=by omega
      have hY:=IntWalk.tdiv_le x P hx0 hp0
      obtain ⟨Y,hYe⟩:∃ Y,x / P=Y:=⟨_,rfl⟩
      obtain ⟨T,hTe⟩:∃ T,Y%2=T:=⟨_,rfl⟩
      have d3:IntKind.u8.wrap (x.tdiv P)=Y:=by rw [IntWalk.u8_quo x P ⟨hx0,hx1,hp0⟩,hYe]
      rw [hYe] at hY HF
      have d4:Int.tmod Y 2=T:=by rw [Int.tmod_eq_emod_of_nonneg hY.1];exact hTe
      rw [hTe] at HF
      clear hYe hTe hY
      go_wp2_with fail
      have HS:Hid (w.heap.size≤wr.heap.size+1):=Lib.hid (by have:=HW.out.size;omega)
      have HO1:=Lib.hid (HR.out.drew)
      go_region_law (first | (refine step_append_one (o:=⟨some 23,_,_,_,_,_⟩) elemBool rfl (.tmp 10) (.tmp 22) rfl w.heap.size j _ _ rfl (HO1.out.alloc _) ⟨wr.heap.size,0,none⟩ 1 _ rfl (one_cell_new _ _ _) rfl rfl (by omega) (by simpa using HS.out) ?_;intro v1 w1 hown1 hb1;have HO2:=Lib.hid hown1;have HB2:=Lib.hid hb1;clear hown1 hb1) | (go_simp;go_at_call 53;refine cP.mono ?_;rintro e w' ⟨rfl,rfl⟩))
      all_goals
        clear d1 d2 d3 d4
        go_wp2_with fail
        go_roundw
        case rel=>
          refine ⟨j+1,by omega,by go_num,Lib.hid ?_,Lib.hid ((HW.out.drew.alloc (by have:=HW.out.size;exact this) _).trans HB2.out)⟩
          rw [boolsV_succ,HF.out]
          exact HO2.out
        case measure=>simp [intOf];omega
    · have hjk:j=480:=by omega
      subst hjk
      go_wp2_with fail
      go_ret
      exact ⟨_,rfl,owns_vals HR.out (by decide),HW.out⟩
def cV (p:Nat × Nat):Value:=.complex .f64 (floatOfInt .f64 (p.1:Int)) (floatOfInt .f64 (p.2:Int))
def Tells (base:Nat) (w0:World) (v:Value) (e:Ending) (w':World):Prop:=e=.returned v∧Below base w0 w'
def Stands (xs:List Value) (l:List (Nat × Nat)):Prop:=
  xs.length=l.length∧∀ (j:Nat) (x:Value) (p:Nat × Nat),xs[j]?=some x→l[j]?=some p→∃ a b,x=.complex .f64 a b∧FI a (p.1:Int)∧FI b (p.2:Int)
def HandedRuns (base:Nat) (w0:World) (l:List (Nat × Nat)) (err:Int) (e:Ending) (w':World):Prop:=
  ∃ v xs,e=.returned (.tuple #[v,.int .i64 err])∧FreshV w' base v xs∧Stands xs l∧Below base w0 w'
theorem stands_cV {l:List (Nat × Nat)} (h:∀ p ∈ l,p.1+p.2≤480):Stands (l.map cV) l:=by
  refine ⟨List.length_map _,fun j x p hx hp=>?_⟩
  rw [List.getElem?_map,hp] at hx
  cases hx
  have hm:=h p (List.mem_of_getElem? hp)
  exact ⟨_,_,rfl,fi_ofInt _ (by omega),fi_ofInt _ (by omega)⟩
theorem stands_nil:Stands [] []:=⟨rfl,fun j x p hx _=>by simp at hx⟩
theorem down_bound {zs:List Int} {lo hi:Int}:∀ p ∈ downOut zs lo hi,p.1+p.2≤480∧1≤p.2∧∀ i,p.1≤i→i < p.1+p.2→downs zs i=true:=by
  intro p hp
  unfold downOut at hp
  by_cases h:downErr zs.length lo hi=0
  · rw [if_pos h] at hp
    have hb:=(all_sum h).2.2.2
    have hm:=gaps_mem (downs zs) (hi.toNat - lo.toNat) lo.toNat lo.toNat (Nat.le_refl _) (fun i h1 h2=>by omega) p hp
    exact ⟨by have:=hm.2.2.1;omega,hm.2.1,hm.2.2.2⟩
  · rw [if_neg h] at hp
    simp at hp
theorem down_length (zs:List Int) (lo hi:Int):(downOut zs lo hi).length≤481:=by
  unfold downOut
  by_cases h:downErr zs.length lo hi=0
  · rw [if_pos h]
    have hb:=(all_sum h).2.2.2
    have:=gaps_length (downs zs) (hi.toNat - lo.toNat) lo.toNat lo.toNat
    omega
  · rw [if_neg h]
    exact Nat.zero_le _
end Go.Proofs.YtcefmpnijjcekaaGreatDoor
namespace Go.Proofs.YtcefmpnijjcekaaGreatDoor
open Go.RowKit
theorem flag_eq (zs:List Int) (n:Nat):flag zs n=decide (zs.getD (n / 8) 0 / 2^(n%8)%2=1):=rfl
set_option maxHeartbeats 400000 in
theorem isUp_any (ao:Option Addr) (cap:Nat) (zs:List Int) (n:Nat) (w:World) (hB:Bts w ao 60 zs) (hn:n < 480) :
    Calls Tryz.prog 135 #[.slice ao 60 cap,.int .i64 n] w fun e w'=>e=.returned (.bool (flag zs n))∧w=w':=by
  obtain ⟨b,off,rfl,hc⟩:=hB.2.2.2.resolve_left (by decide)
  have hx:=hB.2.2.1 _ (getD_mem (l:=zs) (k:=n / 8) (by rw [hB.1];omega))
  have hcell:=hc (n / 8) (by omega)
  have HF:=Lib.hid (flag_eq zs n)
  obtain ⟨x,HX⟩:∃ x,Hid (x=zs.getD (n / 8) 0):=⟨_,Lib.hid rfl⟩
  rw [← HX.out] at hx hcell HF
  have ha:=and_one (k:=n%8) hx (by omega)
  obtain ⟨hx0,hx1⟩:=hx
  clear hB hc
  go_enter Tryz.func135,Tryz.ntmps135
  go_wp2_with fail
  go_ret
  exact ⟨by rw [HF.out];rfl,rfl⟩
set_option maxHeartbeats 800000 in
theorem part_any (ao:Option Addr) (len cap:Nat) (zs:List Int) (p q:Int) (w:World) (hA:Arg w ao len cap zs) (hp:-9223372036854775808≤p∧p≤9223372036854775807) (hq:-9223372036854775808≤q∧q≤9223372036854775807) :
    Calls Tryz.prog 134 #[.slice ao len cap,.int .i64 p,.int .i64 q] w fun e w'=>e=.returned (.int .i64 (downErr len p q))∧w=w':=by
  obtain ⟨hB,_,_,hlen⟩:=hA
  clear hB
  by_cases h60:len=60
  · subst h60
    by_cases h1:p < 0
    · have HE:Hid (downErr 60 p q=1):=Lib.hid (by unfold downErr;rw [if_pos rfl,if_pos (Or.inl h1)])
      go_enter Tryz.func134,Tryz.ntmps134
      go_wp2_with fail
      go_ret
      exact ⟨by rw [HE.out];rfl,rfl⟩
    · by_cases h2:q < p
      · have HE:Hid (downErr 60 p q=1):=Lib.hid (by unfold downErr;rw [if_pos rfl,if_pos (Or.inr (Or.inl h2))])
        go_enter Tryz.func134,Tryz.ntmps134
        go_wp2_with fail
        go_ret
        exact ⟨by rw [HE.out];rfl,rfl⟩
      · by_cases h3:480 < q
        · have HE:Hid (downErr 60 p q=1):=Lib.hid (by unfold downErr;rw [if_pos rfl,if_pos (Or.inr (Or.inr h3))])
          go_enter Tryz.func134,Tryz.ntmps134
          go_wp2_with fail
          go_ret
          exact ⟨by rw [HE.out];rfl,rfl⟩
        · have HE:Hid (downErr 60 p q=0):=Lib.hid (by unfold downErr;rw [if_pos rfl,if_neg (by omega)])
          go_enter Tryz.func134,Tryz.ntmps134
          go_wp2_with fail
          go_ret
          exact ⟨by rw [HE.out];rfl,rfl⟩
  · have HE:Hid (downErr len p q=2):=Lib.hid (by unfold downErr;rw [if_neg h60])
    have hne:((len:Int) != 60)=true:=by simp;omega
    clear hp hq
    go_enter Tryz.func134,Tryz.ntmps134
    go_wp2_with fail
    go_ret
    exact ⟨by rw [HE.out];rfl,rfl⟩
theorem down_errs (len:Nat) (p q:Int) (h:¬ (len=60∧0≤p∧p≤q∧q≤480)):downErr len p q=1∨downErr len p q=2:=by
  unfold downErr
  by_cases h60:len=60
  · rw [if_pos h60,if_pos (by omega)];exact Or.inl rfl
  · rw [if_neg h60];exact Or.inr rfl
end Go.Proofs.YtcefmpnijjcekaaGreatDoor
namespace Go.Proofs.YtcefmpnijjcekaaGreatDoor
open Go.RowKit
set_option maxHeartbeats 400000 in
theorem New_own (w:World) :
    Calls Tryz.prog 60 #[] w fun e w'=>e=.returned (.slice (some ⟨w.heap.size,0,none⟩) 60 60)∧Own w.heap.size w w.heap.size (List.replicate 60 0) w':=by
  have hmk:=run_make_bytes w 60 (by decide)
  rw [show ((60:Nat):Int)=60 from rfl] at hmk
  have HO:=Lib.hid (made_own w 60)
  generalize hw1:w.alloc (.cells (madeCells #[.int .u8 0] 60) 5)=w1 at *
  have HW1:=Lib.hid hw1
  clear hw1
  go_enter Tryz.func60,Tryz.ntmps60
  go_wp2_with fail
  go_ret
  exact ⟨rfl,HO.out⟩
theorem xNew_any (w:World) :
    Calls Tryz.prog 60 #[] w (Gives w.heap.size w (List.replicate 60 0)):=by
  refine (New_own w).mono ?_
  rintro e w' ⟨rfl,hO⟩
  have hf:=hO.fresh (cap:=60) (by rw [List.length_replicate];decide) (by rw [List.length_replicate];decide)
  rw [List.length_replicate] at hf
  exact ⟨_,rfl,hf,hO.2.2.2.2⟩
def Turned (base:Nat) (w0:World) (g:Nat) (L:List Int) (n:Nat) (up:Bool) (e:Ending) (w':World):Prop:=
  ∃ M,e=.returned (.tuple #[])∧Own base w0 g M w'∧M.length=60∧∀ m,flag M m=if m=n then up else flag L m
set_option maxHeartbeats 400000 in
theorem set_any (base:Nat) (w0:World) (g:Nat) (L:List Int) (n:Nat) (up:Bool) (w:World) (hO:Own base w0 g L w) (hL:L.length=60) (hn:n < 480) :
    Calls Tryz.prog 99 #[.slice (some ⟨g,0,none⟩) 60 60,.int .i64 n,.bool up] w (Turned base w0 g L n up):=by
  have hx:=hO.1 _ (getD_mem (l:=L) (k:=n / 8) (by omega))
  have hcell:=hO.2.1 (n / 8) (by omega)
  have hfr:=hO.2.2.1 (n / 8)
  have HO:=Lib.hid hO
  have HL:=Lib.hid hL
  obtain ⟨x,HX⟩:∃ x,Hid (x=L.getD (n / 8) 0):=⟨_,Lib.hid rfl⟩
  rw [← HX.out] at hx hcell
  have ho:=or_bit (k:=n%8) hx (by omega)
  have ha:=andNot_bit (k:=n%8) hx (by omega)
  have hp:(1:Int)≤2^(n%8)∧(2:Int)^(n%8)≤128:=by
    by_cases h7:n%8=7
    · rw [h7];decide
    · have:=pow_small (j:=n%8) (by omega);omega
  obtain ⟨hx0,hx1⟩:=hx
  obtain ⟨hp0,hp1⟩:=hp
  clear hO hL
  cases up
  · obtain ⟨y,hy⟩:∃ y,bits .andNot .u8 x (2^(n%8))=y:=⟨_,rfl⟩
    rw [hy] at ha
    have HA:=Lib.hid ha
    clear ho ha
    go_enter Tryz.func99,Tryz.ntmps99
    go_wp2_with fail
    go_end0
    exact ⟨L.set (n / 8) y,rfl,HO.out.store (k:=n / 8) (by rw [HL.out];omega) HA.out.1,by rw [List.length_set,HL.out],fun m=>flag_set (up:=false) (by rw [HL.out];omega) (by rw [← HX.out];exact HA.out.2) m⟩
  · obtain ⟨y,hy⟩:∃ y,bits .or .u8 x (2^(n%8))=y:=⟨_,rfl⟩
    rw [hy] at ho
    have HA:=Lib.hid ho
    clear ho ha
    go_enter Tryz.func99,Tryz.ntmps99
    go_wp2_with fail
    go_end0
    exact ⟨L.set (n / 8) y,rfl,HO.out.store (k:=n / 8) (by rw [HL.out];omega) HA.out.1,by rw [List.length_set,HL.out],fun m=>flag_set (up:=true) (by rw [HL.out];omega) (by rw [← HX.out];exact HA.out.2) m⟩
theorem cnt_down (len:Nat) (n:Int):downErr len 0 n=cntErr len n:=by
  unfold downErr cntErr
  by_cases h1:n < 0∨480 < n
  · rw [if_pos h1,if_pos (show (0:Int) < 0∨n < 0∨480 < n from Or.inr h1)]
  · rw [if_neg h1,if_neg (show ¬ ((0:Int) < 0∨n < 0∨480 < n) by omega)]
theorem cnt_errs (len:Nat) (n:Int) (h:¬ (len=60∧0≤n∧n≤480)):cntErr len n=1∨cntErr len n=2:=by
  unfold cntErr
  by_cases h60:len=60
  · rw [if_pos h60,if_pos (by omega)];exact Or.inl rfl
  · rw [if_neg h60];exact Or.inr rfl
set_option maxRecDepth 100000 in
set_option maxHeartbeats 800000 in
theorem xCount_any (ao:Option Addr) (len cap:Nat) (zs:List Int) (n:Int) (w:World) (hA:Arg w ao len cap zs) (hn:-9223372036854775808≤n∧n≤9223372036854775807) :
    Calls Tryz.prog 80 #[.slice ao len cap,.int .i64 n] w (Tells w.heap.size w (.tuple #[.int .i64 (cntOut zs n),.int .i64 (cntErr len n)])):=by
  have cP:=part_any ao len cap zs 0 n w hA (by decide) hn
  rw [cnt_down] at cP
  obtain ⟨hB,_,_,hlen⟩:=hA
  have hl:=hB.1
  by_cases hok:len=60∧0≤n∧n≤480
  · obtain ⟨rfl,h0,h1⟩:=hok
    have HE:Hid (cntErr 60 n=0):=Lib.hid (by unfold cntErr;rw [if_pos rfl,if_neg (by omega)])
    rw [HE.out] at cP
    obtain ⟨to,hto⟩:∃ to:Nat,n=to:=⟨n.toNat,by omega⟩
    subst hto
    have HV:Hid (cntOut zs to=cnt (flag zs) to):=Lib.hid (by unfold cntOut;rw [hl,HE.out,if_pos rfl];rfl)
    have h480:to≤480:=by omega
    have HB:=Lib.hid hB
    clear hB hl hlen h0 h1 hn
    go_enter Tryz.func80,Tryz.ntmps80
    go_wp2_with (go_at_call 134;refine cP.mono ?_;rintro e w' ⟨rfl,rfl⟩)
    clear cP
    go_loop [7,16] (fun kv nv=>∃ i:Nat,i≤to∧nv=.int .i64 i∧kv=.int .i64 (cnt (flag zs) i:Nat)) (fun _ nv=>to - (intOf nv).toNat)
    case atStart=>exact ⟨0,Nat.zero_le _,rfl,rfl⟩
    case round=>
      obtain ⟨i,hi,rfl,rfl⟩:=hrel
      by_cases hlt:i < to
      · have cU:=isUp_any ao cap zs i w HB.out (by omega)
        have hle:=cnt_le (flag zs) i
        have HN:Hid (cnt (flag zs) (i+1)=cnt (flag zs) i+(if flag zs i then 1 else 0)):=Lib.hid rfl
        obtain ⟨k,HK⟩:∃ k,Hid (k=cnt (flag zs) i):=⟨_,Lib.hid rfl⟩
        rw [← HK.out] at hle HN ⊢
        cases hf:flag zs i
        · rw [hf] at cU HN
          clear hf
          go_wp2_with (go_at_call 135;refine cU.mono ?_;rintro e w' ⟨rfl,rfl⟩)
          go_round
          case rel=>exact ⟨i+1,by omega,by go_num,by rw [HN.out];rfl⟩
          case measure=>simp [intOf];omega
        · rw [hf] at cU HN
          clear hf
          go_wp2_with (go_at_call 135;refine cU.mono ?_;rintro e w' ⟨rfl,rfl⟩)
          go_round
          case rel=>exact ⟨i+1,by omega,by go_num,by rw [HN.out];go_num⟩
          case measure=>simp [intOf];omega
      · have hit:i=to:=by omega
        subst hit
        go_wp2_with fail
        go_ret2
        exact ⟨by rw [HE.out,HV.out];rfl,Below.refl _ _⟩
  · have hE:=cnt_errs len n hok
    have HV:Hid (cntOut zs n=0):=Lib.hid (by unfold cntOut;rw [hl,if_neg (by omega)])
    clear hB hl hn hok hlen
    rcases hE with hE | hE
    all_goals
      rw [hE] at cP ⊢
      clear hE
      go_enter Tryz.func80,Tryz.ntmps80
      go_wp2_with (go_at_call 134;refine cP.mono ?_;rintro e w' ⟨rfl,rfl⟩)
      go_ret2
      exact ⟨by rw [HV.out];rfl,Below.refl _ _⟩
end Go.Proofs.YtcefmpnijjcekaaGreatDoor
