/- Proved here: what the landed image's Super and Blocks answer; slices.Clone of bytes. The conditions stand at each theorem. Proved here: what the landed image's Take answers below 0. The conditions stand at each theorem. Proved here: what the landed image's arrays answers of any list of texts. The conditions stand at each theorem. Proved here: what the landed image's sound .. -/
import Derived.Test.YtcefmpnijjcekaaGreatDoorTk22
import Derived.Test.YtcefmpnijjcekaaGreatDoorTk5
import Derived.Stop.BytesEq
import Derived.Test.YtcefmpnijjcekaaGreatDoorTk8
import Derived.Test.YtcefmpnijjcekaaGreatDoorTk3
import Derived.Test.YtcefmpnijjcekaaGreatDoorTk21
import Derived.Great.BuildSlice
import Derived.Test.YtcefmpnijjcekaaGreatDoorTk14
import Derived.Test.YtcefmpnijjcekaaGreatDoorTk12
import Derived.Test.YtcefmpnijjcekaaGreatDoorTk16
import Derived.Test.YtcefmpnijjcekaaGreatDoorTk2
import Derived.Test.YtcefmpnijjcekaaGreatDoorTk0
set_option linter.unusedVariables false
set_option linter.unusedSimpArgs false
namespace Go.Proofs.YtcefmpnijjcekaaGreatDoor
open Go.RowKit
set_option maxRecDepth 100000 in
theorem clone8_any (ad:Addr) (len cap:Nat) (zs:List Int) (w:World) (hA:Arg w (some ad) len cap zs) :
    Calls Tryz.prog 35 #[.slice (some ad) len cap] w (Gives w.heap.size w zs):=by
  obtain ⟨hB,hnil,_,hlen⟩:=hA
  have hown:=World.ownsRow_made (base:=w.heap.size) (e:=5) (size:=1) w #[] 0 (Nat.le_refl _) (by decide) rfl
  have hb0:Below w.heap.size w (w.alloc (.cells #[] 5)):=(Below.refl _ _).alloc (Nat.le_refl _) _
  have hA0:=hB.later hb0
  have HZ:=Lib.hid hB.2.2.1
  have hnil:=fun (w:World)=>Lib.run_eql_slice_nil (P:=Tryz.prog) w 44 5 (some ad) len cap 0 0 Tryz.underlying44
  clear hB
  go_enter Tryz.func35,Tryz.ntmps35
  go_wp2_with (at_builtin;refine wp_append_bytes rfl (.tmp 5) (.tmp 6) rfl w.heap.size 0 _ [] rfl hown (some ad) len cap zs rfl hA0 (by simp) (by omega) (by simp) ?_;intro v1 w1 hown1 hb1;have HB1:=Lib.hid (hb0.trans hb1);have HO1:=Lib.hid hown1;clear hown1 hb1 hown hA0)
  go_ret
  have h:=HO1.out
  rw [Nat.zero_add,List.nil_append] at h
  exact ⟨_,rfl,fresh_of_owns h HZ.out hlen,HB1.out⟩
theorem bts_range {w:World} {b off:Nat} {zs:List Int} (h:w.rangeAt b off (bys zs)) (hl:zs.length=64) (hz:∀ z ∈ zs,0≤z∧z≤255):Arg w (some ⟨b,off,none⟩) 64 64 zs:=
  ⟨⟨hl,by decide,hz,Or.inr ⟨b,off,rfl,fun j hj=>h j _ (bys_at (by omega))⟩⟩,by simp,by decide,by decide⟩
set_option maxRecDepth 100000 in
set_option maxHeartbeats 3200000 in
theorem iblocks_any {w:World} {a:Addr} {F:Nat→Prop} {I:Img} (h:ImgI w a F I) :
    Calls Tryz.prog 11 #[.pointer (some a)] w fun e w'=>∃ v,e=.returned v∧BOwn w.heap.size w.heap.size w' v I.bl∧Below w.heap.size w w':=by
  obtain ⟨p,gb,gl,gs,cb,cl,cs,rfl,h,rfl⟩:=h
  have hp:=h.lt.1
  have hgb:=h.lt.2.1
  have hcell:∀ W,Below w.heap.size w W→W.cell? ⟨p,0,none⟩=some (.slice (some ⟨gb,0,none⟩) I.bl.length cb):=fun W hW=>by rw [hW.cell (p:=⟨p,0,none⟩) hp];exact h.c0
  have HRW:Hid (∀ W,Below w.heap.size w W→Rw W gb I.bl):=Lib.hid (fun W hW=>h.rb.later h.n0.1 hW)
  have HN:=Lib.hid (none_of h.c0 h.n0.1)
  have c0:=h.c0
  have h480:=h.n0.2
  have hcb:=h.kb
  obtain ⟨L,hL⟩:∃ L,I.bl=L:=⟨_,rfl⟩
  obtain ⟨n,hn⟩:∃ n,L.length=n:=⟨_,rfl⟩
  rw [hL] at c0 h480 HRW hcb ⊢
  rw [hn] at c0 h480 hcb
  have HLN:=Lib.hid hn
  clear h hL hcell hn
  go_enter Tryz.func11,Tryz.ntmps11
  go_wp2_with (go_at_call 29;refine HN.out.mono ?_;rintro e w2 ⟨rfl,rfl⟩)
  have HJ0:Hid (BOwn w.heap.size w.heap.size w (.slice none 0 0) (L.take 0)∧Below w.heap.size w w):=Lib.hid ⟨⟨[],owns_nil_r _ _ _ _,fun j zs hj=>by simp at hj⟩,Below.refl _ _⟩
  clear HN c0
  go_loopw [3,14] (fun vv iv wr=>∃ i:Nat,i≤n∧iv=.int .i64 i∧Hid (BOwn w.heap.size w.heap.size wr vv (L.take i)∧Below w.heap.size w wr)) (fun _ iv _=>n - (intOf iv).toNat)
  case atStart=>exact ⟨0,Nat.zero_le _,rfl,HJ0⟩
  case round=>
    obtain ⟨i,hi,rfl,HJ⟩:=hrel
    clear HJ0
    by_cases hlt:i < n
    · have i2:(i:Int) < n:=by omega
      have hiL:i < L.length:=by rw [HLN.out];exact hlt
      obtain ⟨R,hR⟩:∃ R,L.getD i []=R:=⟨_,rfl⟩
      have HR:Hid (wr.rangeAt gb (i * 64) (bys R)∧R.length=64∧(∀ z ∈ R,0≤z∧z≤255)∧L.take (i+1)=L.take i ++ [R]∧(L.take i).length=i):=Lib.hid (by
        have hr:=HRW.out wr HJ.out.2
        have h1:=hr.range hiL
        have h2:=hr.1.at hiL
        rw [hR] at h1 h2
        refine ⟨h1,h2.1,h2.2,?_,by rw [List.length_take];omega⟩
        rw [List.take_add_one,← hR,List.getD_eq_getElem?_getD,List.getElem?_eq_getElem hiL]
        rfl)
      obtain ⟨xs,ho,hxs⟩:=HJ.out.1
      rw [HR.out.2.2.2.2] at ho
      obtain ⟨la,lc,rfl⟩:=owns_shape_r ho
      have HO:=Lib.hid (And.intro ho hxs)
      have HW:=Lib.hid HJ.out.2
      clear HJ hR hiL ho hxs
      go_wp2_with (first
        | (refine wpList_load_mid rfl 84 (.tmp 16) rfl gb (i * 64) rfl (bys R) _ HR.out.1 ublk rfl (iblk HR.out.2.1) ?_)
        | (refine wp_new_blk rfl rfl (some 5) rfl ?_;intro n1 w1 hn1 hw1;have HO1:=Lib.hid (new_own hn1 hw1);have HN1:=Lib.hid hn1;clear hn1 hw1)
        | (refine wpList_store_mid rfl 84 (.tmp 5) (.tmp 17) rfl n1 0 (bys R).toArray rfl rfl (by rw [List.size_toArray,bys_length,HR.out.2.1];exact fun j hj=>⟨by rw [Nat.zero_add,HO1.out.2.1 j (by rw [List.length_replicate];exact hj)];rfl,HO1.out.2.2.1 _⟩) (iblka HR.out.2.1) (all_oneCell_toArray (bys_one R)) ?_)
        | (go_at_call 35
           have hth:w1.there n1 0 (bys R).length:=by rw [bys_length,HR.out.2.1];exact fun j hj=>⟨by rw [Nat.zero_add,HO1.out.2.1 j (by rw [List.length_replicate];exact hj)];rfl,HO1.out.2.2.1 _⟩
           have HB2:Hid (Below wr.heap.size wr (w1.setCells n1 0 (bys R))):=Lib.hid (below_setCells HO1.out.2.2.2.2 (Nat.le_of_eq HN1.out.symm) _ _)
           refine (clone8_any _ _ _ R _ (bts_range (World.rangeAt_setCells_same _ _ _ _ hth) HR.out.2.1 HR.out.2.2.1)).mono ?_
           rintro e w4 ⟨v4,rfl,hf4,hb4⟩
           obtain ⟨g4,o4,p4,rfl,hA4,hg4⟩:=fresh_slice hf4 (fun e=>by have:=HR.out.2.1;rw [e] at this;cases this)
           rw [HR.out.2.1] at hA4
           have HA4:=Lib.hid (And.intro hA4 (Nat.le_trans HB2.out.size hg4))
           have HB4:=Lib.hid (HB2.out.trans (hb4.mono HB2.out.size))
           try rw [HR.out.2.1]
           clear hth hf4 hA4 hg4 hb4)
        | (at_builtin;refine wp_append_at elemBs rfl (.tmp 18) (.tmp 21) rfl w.heap.size i (.slice la i lc) xs rfl ?hown ⟨w4.heap.size,0,none⟩ 1 1 [.slice (some ⟨g4,o4,none⟩) 64 p4] rfl ?hm rfl ?hx ?hone ?hbb ?hbase ?hkk;(case hown=>exact owns_later_r HO.out.1 (HB4.out.alloc HB4.out.size _));(case hm=>decide);(case hx=>exact news_r w4 [.slice (some ⟨g4,o4,none⟩) 64 p4] _);(case hone=>(intro u hu;simp only [List.mem_cons,List.mem_nil_iff,or_false] at hu;rcases hu with rfl;rfl));(case hbb=>omega);(case hbase=>(have h1:=HW.out.size;have h2:=HB4.out.size;simp;omega));intro v8 w8 hown8 hg8 hb8 hv8;have HO8:=Lib.hid (And.intro hown8 (And.intro hg8 hv8));have HB8:=Lib.hid hb8;clear hown8 hg8 hb8 hv8))
      have hbo:=BOwn.snoc (bs:=L.take i) (by rw [HR.out.2.2.2.2];exact HO.out.1) HO.out.2 HB4.out (lo:=w.heap.size) ⟨by have h1:=HW.out.size;have h2:=HA4.out.2;omega,arg_lt HA4.out.1⟩ (fun e=>by have h1:=(HO.out.1.lt _ e).2;have h2:=HA4.out.2;omega) HA4.out.1 (by rw [HR.out.2.2.2.2];exact HO8.out.1) HO8.out.2.1 HO8.out.2.2
      rw [← HR.out.2.2.2.1] at hbo
      have b4:=HW.out.trans (HB4.out.mono HW.out.size)
      refine ⟨⟨i+1,by omega,by go_num,Lib.hid ⟨hbo,(b4.alloc b4.size _).trans HB8.out⟩⟩,by simp [intOf];omega⟩
    · have hit:i=n:=by omega
      subst hit
      have hbo:=HJ.out.1
      rw [List.take_of_length_le (by rw [HLN.out];exact Nat.le_refl _)] at hbo
      have HBO:=Lib.hid hbo
      have HW:=Lib.hid HJ.out.2
      clear hbo HJ
      go_wp2_with fail
      go_ret
      exact ⟨_,rfl,HBO.out,HW.out⟩
end Go.Proofs.YtcefmpnijjcekaaGreatDoor
namespace Go.Proofs.YtcefmpnijjcekaaGreatDoor
open Go.RowKit
set_option maxRecDepth 100000 in
set_option maxHeartbeats 800000 in
theorem itake_neg {w:World} {a:Addr} {F:Nat→Prop} {I:Img} (h:ImgI w a F I) (n:Int) (hn:n < 0) :
    Calls Tryz.prog 8 #[.pointer (some a),.int .i64 n] w fun e w'=>e=.returned (.tuple #[.slice none 0 0,.int .i64 1])∧w=w':=by
  obtain ⟨p,gb,gl,gs,cb,cl,cs,rfl,h,rfl⟩:=h
  have cN:=none_of h.c0 h.n0.1
  clear h
  go_enter Tryz.func8,Tryz.ntmps8
  go_wp2_with (go_at_call 29;refine cN.mono ?_;rintro e w' ⟨rfl,rfl⟩)
  go_ret2
  exact ⟨rfl,rfl⟩
end Go.Proofs.YtcefmpnijjcekaaGreatDoor
namespace Go.Proofs.YtcefmpnijjcekaaGreatDoor
open Go.RowKit
def len64 (B:List (List Int)):Bool:=B.all fun c=>decide (c.length=64)
theorem len64_iff {B:List (List Int)}:len64 B=true ↔ ∀ j,j < B.length→(B.getD j []).length=64:=by
  unfold len64
  rw [List.all_eq_true]
  refine ⟨fun h j hj=>?_,fun h c hc=>?_⟩
  · rw [List.getD_eq_getElem?_getD,List.getElem?_eq_getElem hj]
    exact of_decide_eq_true (h _ (List.getElem_mem hj))
  · obtain ⟨j,hj,rfl⟩:=List.getElem_of_mem hc
    have:=h j hj
    rw [List.getD_eq_getElem?_getD,List.getElem?_eq_getElem hj] at this
    exact decide_eq_true this
theorem len64_false {B:List (List Int)} {j:Nat} (hj:j < B.length) (h:(B.getD j []).length≠64):len64 B=false:=by
  cases hb:len64 B with
  | false=>rfl
  | true=>exact absurd (len64_iff.1 hb j hj) h
theorem fillB {c:List Int} (hc:c.length=64) (cells:Array Value) (h:cells.size=64):Instr.fill (fun i=>some (i * 64,64)) cells [(0,Value.agg (bys c).toArray)]=some (bys c).toArray:=by
  have h64:(bys c).length=64:=by rw [bys_length,hc]
  have h1:=Great.fill_whole (s:=64) (by decide) [Value.agg (bys c).toArray] cells (fun v hv=>by
    rw [List.mem_singleton.1 hv]
    show (bys c).toArray.size=64
    simp [h64]) (by rw [h];rfl)
  have e:([Value.agg (bys c).toArray].flatMap fun v=>v.cells.toList)=bys c:=by simp [Value.cells]
  rw [e] at h1
  exact h1
section
variable {ops:Array Oper} {rest:List Oper} {o:Oper} {a:Act} {w:World} {Q:Exit→Act→World→Prop}
theorem wp_build_blk (hg:o.guard=none) (x:Operand) (ho:o.op=.buildSlice 52 1 #[(0,x)]) (c:List Int) (hx:a.eval x=.agg (bys c).toArray) (hc:c.length=64) (dst:Option Tmp) (hd:o.dst=dst)
    (h:∀ n1 w1,n1=w.heap.size→w1=w.alloc (.cells (bys c).toArray 84)→wpList Tryz.prog ops Q rest (a.put dst (.slice (some ⟨n1,0,none⟩) 1 1)) w1):wpList Tryz.prog ops Q (o::rest) a w:=by
  subst hd
  obtain ⟨i0,hi,hz0,hz1,hz2⟩:=info_parts infoB
  refine wpList_buildSlice hg _ 84 1 _ ho (bys c).toArray i0 (.agg zeroB) Tryz.underlying52 hi hz0 (by rw [hz1];decide) (by rw [hz1];decide) ?_ (h _ _ rfl rfl)
  rw [hz1]
  have e:(#[((0:Nat),x)].map fun (i,x)=>(i,a.eval x)).toList=[(0,Value.agg (bys c).toArray)]:=by simp [hx]
  rw [e]
  exact fillB hc _ (by simp)
end
def ArraysDone (w:World) (B:List (List Int)) (e:Ending) (w':World):Prop:=
  ((len64 B=true∧∃ ao cap,e=.returned (.tuple #[.slice ao B.length cap,.bool true])∧w'.ownsRow w.heap.size 84 64 (.slice ao B.length cap) B.length (flat B)∧All64 B) ∨
    (len64 B=false∧e=.returned (.tuple #[.slice none 0 0,.bool false])))∧Below w.heap.size w w'
theorem RowsIn.bytes {w:World} {a:Option Addr} {len cap i:Nat} {Z:List (List Int)} (h:RowsIn w a len cap Z) (hi:i < len):∀ z ∈ Z.getD i [],0≤z∧z≤255:=by
  obtain ⟨_,_,_,_,_,_,_,hb⟩:=h.at hi
  exact hb.2.2.1
set_option maxRecDepth 100000 in
set_option maxHeartbeats 3200000 in
theorem arrays_any {ao:Option Addr} {m c:Nat} {B:List (List Int)} (w:World) (hX:RowsIn w ao m c B) (hm:∀ i,i≤m→(∀ j,j < i→(B.getD j []).length=64)→i≤99999) (hm2:m≤140737488351232) :
    Calls Tryz.prog 18 #[.slice ao m c] w (ArraysDone w B):=by
  have HX:=Lib.hid hX
  have HM:=Lib.hid hm
  have HL:Hid (B.length=m):=Lib.hid hX.1
  clear hX hm
  go_enter Tryz.func18,Tryz.ntmps18
  go_wp2_with fail
  have HJ0:Hid (w.ownsRow w.heap.size 84 64 (.slice none 0 0) 0 (flat (B.take 0))∧Below w.heap.size w w∧∀ j,j < 0→(B.getD j []).length=64):=Lib.hid ⟨owns_nil_r _ _ _ _,Below.refl _ _,fun j hj=>absurd hj (by omega)⟩
  go_loopw [4,9] (fun vv iv wr=>∃ i:Nat,i≤m∧iv=.int .i64 i∧Hid (wr.ownsRow w.heap.size 84 64 vv i (flat (B.take i))∧Below w.heap.size w wr∧∀ j,j < i→(B.getD j []).length=64)) (fun _ iv _=>m - (intOf iv).toNat)
  case atStart=>exact ⟨0,Nat.zero_le _,rfl,HJ0⟩
  case round=>
    obtain ⟨i,hi,rfl,HJ⟩:=hrel
    clear HJ0
    obtain ⟨va,vc,rfl⟩:=owns_shape_r HJ.out.1
    by_cases hlt:i < m
    · have i2:(i:Int) < m:=by omega
      by_cases h64:(B.getD i []).length=64
      · obtain ⟨b1,o1,ad,c1,rfl,d1,q1⟩:=(HX.out.later HJ.out.2.1).full hlt h64
        obtain ⟨⟨b,off,sp⟩,hsp⟩:∃ x:Addr,ad=x:=⟨ad,rfl⟩
        obtain rfl:sp=none:=by
          rcases q1.1.2.2.2 with h0 | ⟨b',o',e,_⟩
          · omega
          · rw [hsp] at e;cases e;rfl
        subst hsp
        obtain ⟨R,hR⟩:∃ R,B.getD i []=R:=⟨_,rfl⟩
        rw [hR] at q1 h64
        have HA:=Lib.hid (arg_range q1)
        have HZ:=Lib.hid (And.intro h64 q1.1.2.2.1)
        have HRW:=Lib.hid hR
        have hcv:=to_array b off c1
        have hi9:i+1≤99999:=HM.out (i+1) (by omega) (fun j hj=>by
          by_cases e:j=i
          · rw [e,hR,h64]
          · exact HJ.out.2.2 j (by omega))
        have HI9:=Lib.hid hi9
        clear q1 h64 hR hi9
        go_wp2_with (first
          | (refine wpList_load_mid rfl 84 (.tmp 18) rfl b off rfl (bys R) _ HA.out ublk rfl (iblk HZ.out.1) ?_)
          | (refine wp_build_blk rfl (.tmp 19) rfl R rfl HZ.out.1 (some 20) rfl ?_;intro n1 x1 hn1 hx1;have HN1:=Lib.hid (And.intro hn1 hx1);have HB1:Hid (Below wr.heap.size wr x1):=Lib.hid (by rw [hx1];exact (Below.refl _ _).alloc (Nat.le_refl _) _);clear hn1 hx1)
          | (at_builtin;refine wp_append_at elemBlk rfl (.tmp 16) (.tmp 20) rfl w.heap.size i (.slice va i vc) (flat (B.take i)) rfl ?hown ⟨n1,0,none⟩ 1 1 (bys R) ?hl ?hm rfl ?hx ?hone ?hbb ?hbase ?hkk;(case hown=>exact owns_later_r HJ.out.1 HB1.out);(case hl=>rw [bys_length,HZ.out.1]);(case hm=>decide);(case hx=>(rw [HN1.out.1,HN1.out.2];exact news_r wr (bys R) _));(case hone=>exact bys_one R);(case hbb=>(have:=HI9.out;omega));(case hbase=>(have:=HJ.out.2.1.size;have:=HB1.out.size;omega));intro v8 w8 hown8 hg8 hb8 hv8;have HO8:=Lib.hid hown8;have HB8:=Lib.hid ((HJ.out.2.1.trans (HB1.out.mono HJ.out.2.1.size)).trans hb8);clear hown8 hg8 hb8 hv8))
        have hiB:i < B.length:=by rw [HL.out];exact hlt
        have ht:B.take (i+1)=B.take i ++ [R]:=by
          rw [List.take_add_one,← HRW.out,List.getD_eq_getElem?_getD,List.getElem?_eq_getElem hiB]
          rfl
        refine ⟨⟨i+1,by omega,by go_num,Lib.hid ⟨by rw [ht,flat_snoc];exact HO8.out,HB8.out,fun j hj=>?_⟩⟩,by simp [intOf];omega⟩
        by_cases e:j=i
        · rw [e,HRW.out,HZ.out.1]
        · exact HJ.out.2.2 j (by omega)
      · obtain ⟨b1,o1,ad,l1,c1,rfl,d1,q1⟩:=(HX.out.later HJ.out.2.1).at hlt
        have hne:((l1:Int) != 64)=true:=by
          have:=q1.1
          simp
          omega
        have HF:=Lib.hid (len64_false (by rw [HL.out];exact hlt) h64)
        have HB:=Lib.hid HJ.out.2.1
        clear q1 h64 HJ
        go_wp2_with fail
        go_ret2
        exact ⟨Or.inr ⟨HF.out,rfl⟩,HB.out⟩
    · have hit:i=m:=by omega
      subst hit
      have HT:Hid (B.take i=B∧len64 B=true):=Lib.hid ⟨List.take_of_length_le (by rw [HL.out];exact Nat.le_refl _),len64_iff.2 (fun j hj=>HJ.out.2.2 j (by rw [HL.out] at hj;exact hj))⟩
      have ho:=HJ.out.1
      rw [HT.out.1] at ho
      have HO:=Lib.hid ho
      have HB:=Lib.hid HJ.out.2.1
      have hall:All64 B:=fun x hx=>by
        obtain ⟨j,hj,rfl⟩:=List.getElem_of_mem hx
        have e:B.getD j []=B[j]:=by rw [List.getD_eq_getElem?_getD,List.getElem?_eq_getElem hj];rfl
        rw [HL.out] at hj
        rw [← e]
        exact ⟨HJ.out.2.2 j hj,HX.out.bytes hj⟩
      have HA:=Lib.hid hall
      clear HJ ho hall
      go_wp2_with fail
      go_ret2
      exact ⟨Or.inl ⟨HT.out.2,va,vc,by rw [HL.out];rfl,by rw [HL.out];exact HO.out,HA.out⟩,HB.out⟩
end Go.Proofs.YtcefmpnijjcekaaGreatDoor
namespace Go.Proofs.YtcefmpnijjcekaaGreatDoor
open Go.RowKit
def volB (B:List (List Int)):Bool:=
  decide (64≤B.length)&&(isSup (B.getD 0 [])&&(decide ((supAt B).a=(B.length:Int))&&(isHead (B.getD 1 [])&&(sealedB (B.getD 2 [])&&(List.range 32).all fun k=>isNode (halfAt B k)))))
theorem volB_iff {B:List (List Int)}:volB B=true ↔ VolOk B:=by
  unfold volB
  simp only [Bool.and_eq_true,decide_eq_true_iff,List.all_eq_true,List.mem_range]
  constructor
  · rintro ⟨h1,h2,h3,h4,h5,h6⟩
    have hs:(supAt B).sound=true:=by
      have h:=h2
      unfold isSup at h
      have e:supAt B=readSup (B.getD 0 []):=by unfold supAt getSup;rw [if_pos h2]
      rw [e]
      simp only [Bool.and_eq_true] at h
      exact h.2.1
    have hs2:=of_decide_eq_true hs
    exact ⟨⟨h1,by omega⟩,h2,h3,h4,h5,h6⟩
  · intro h
    exact ⟨h.n64.1,h.sup,h.siz,h.head,h.sld,h.nodes⟩
theorem volB_cut {B:List (List Int)} (h:¬ (64≤B.length∧isSup (B.getD 0 [])=true∧(supAt B).a=(B.length:Int)∧isHead (B.getD 1 [])=true∧sealedB (B.getD 2 [])=true)):volB B=false:=by
  cases hv:volB B with
  | false=>rfl
  | true=>
    have k:=volB_iff.1 hv
    exact absurd ⟨k.n64.1,k.sup,k.siz,k.head,k.sld⟩ h
theorem volB_node {B:List (List Int)} {k:Nat} (hk:k < 32) (h:isNode (halfAt B k)=false):volB B=false:=by
  cases hv:volB B with
  | false=>rfl
  | true=>
    have q:=(volB_iff.1 hv).nodes k hk
    rw [h] at q
    cases q
section
variable {ops:Array Oper} {rest:List Oper} {o:Oper} {a:Act} {w:World} {Q:Exit→Act→World→Prop}
theorem wp_store_dead (hg:o.guard=none) (T:TypeId) (x y:Operand) (ho:o.op=.store T x y) (b:Nat) (vs:Array Value) (hx:a.eval x=.pointer (some ⟨b,0,none⟩)) (hy:a.eval y=.agg vs) (ht:w.there b 0 vs.size) (hi:(Tryz.prog.info? T).map (·.size)=some vs.size) (h1:vs.all (·.oneCell')=true) (hd:o.dst=none)
    (h:∀ w2,(∀ base w0,base≤b→Below base w0 w→Below base w0 w2)→wpList Tryz.prog ops Q rest (a.put none undef) w2):wpList Tryz.prog ops Q (o::rest) a w:=by
  refine wpList_store_mid hg T x y ho b 0 vs hx hy ht hi h1 ?_
  rw [hd]
  exact h _ (fun base w0 hb hB=>below_cells _ hb _ _ _ hB)
end
theorem there_new0 (w:World) (cs:Array Value) (T:TypeId) {n:Nat} (hn:cs.size=n):(w.alloc (.cells cs T)).there w.heap.size 0 n:=there_newC (Below.refl _ _) hn
set_option maxRecDepth 100000 in
set_option maxHeartbeats 3200000 in
theorem isound_any {w:World} {g n cap:Nat} {B:List (List Int)} (hR:Rw w g B) (hn:B.length=n) (h0:0 < n) (hc:n≤cap) (hm:n≤100000) :
    Calls Tryz.prog 19 #[.slice (some ⟨g,0,none⟩) n cap] w (Says w.heap.size w (volB B)):=by
  by_cases h64:n < 64
  · have HF:=Lib.hid (volB_cut (B:=B) (fun h=>by have:=h.1;omega))
    have i1:(n:Int) < 64:=by omega
    clear hR hn h64
    go_enter Tryz.func19,Tryz.ntmps19
    go_wp2_with fail
    go_ret
    exact ⟨by rw [HF.out];rfl,Below.refl _ _⟩
  · have HRW:Hid (∀ W,Below w.heap.size w W→Rw W g B):=Lib.hid (fun W hW=>hR.later (by omega) hW)
    have HN:=Lib.hid hn
    obtain ⟨x0,x1,x2,x3,x4,hX⟩:∃ x0 x1 x2 x3 x4,getSup (B.getD 0 [])=⟨x0,x1,x2,x3,x4⟩:=⟨_,_,_,_,_,rfl⟩
    obtain ⟨es,hes⟩:∃ es,getSupErr (B.getD 0 [])=es:=⟨_,rfl⟩
    obtain ⟨y0,y1,hY⟩:∃ y0 y1,getHead (B.getD 1 [])=⟨y0,y1⟩:=⟨_,_,rfl⟩
    obtain ⟨eh,heh⟩:∃ eh,getHeadErr (B.getD 1 [])=eh:=⟨_,rfl⟩
    obtain ⟨sl,hsl⟩:∃ sl,sealedB (B.getD 2 [])=sl:=⟨_,rfl⟩
    have HS:Hid (∀ W,Below w.heap.size w W→Calls Tryz.prog 45 #[.slice (some ⟨g,0,none⟩) 64 64] W fun e' w'=>e'=.returned (.tuple #[.agg #[.int .i64 x0,.int .i64 x1,.int .i64 x2,.int .i64 x3,.int .i64 x4],.int .i64 es])∧Below W.heap.size W w'):=Lib.hid (fun W hW=>by
      have hA:=(HRW.out W hW).whole (i:=0) (cap:=64) (by omega) (by decide)
      rw [Nat.zero_mul] at hA
      have h:=sdec_any _ _ _ _ _ hA
      rw [hes,hX] at h
      exact h)
    have HH:Hid (∀ W,Below w.heap.size w W→Calls Tryz.prog 46 #[.slice (some ⟨g,64,none⟩) 64 64] W fun e' w'=>e'=.returned (.tuple #[.agg #[.int .i64 y0,.int .i64 y1],.int .i64 eh])∧Below W.heap.size W w'):=Lib.hid (fun W hW=>by
      have hA:=(HRW.out W hW).whole (i:=1) (cap:=64) (by omega) (by decide)
      rw [Nat.one_mul] at hA
      have h:=shead_any _ _ _ _ _ hA
      rw [heh,hY] at h
      exact h)
    have HSE:Hid (∀ W,Below w.heap.size w W→Calls Tryz.prog 47 #[.slice (some ⟨g,128,none⟩) 64 64] W (Says W.heap.size W sl)):=Lib.hid (fun W hW=>by
      have hA:=(HRW.out W hW).whole (i:=2) (cap:=64) (by omega) (by decide)
      have h:=fSealed_any _ _ _ _ _ hA
      rw [hsl] at h
      exact h)
    have j1:¬ (n:Int) < 64:=by omega
    have j2:64≤n:=by omega
    have j3:(64:Int)≤(n:Int):=by omega
    by_cases hall:isSup (B.getD 0 [])=true∧x0=(n:Int)∧isHead (B.getD 1 [])=true∧sl=true
    · have hsup:=hall.1
      have hx0:=hall.2.1
      have hhd:=hall.2.2.1
      have hsl2:=hall.2.2.2
      obtain rfl:es=0:=by rw [← hes];unfold getSupErr;rw [if_pos hsup]
      obtain rfl:eh=0:=by rw [← heh];unfold getHeadErr;rw [if_pos hhd]
      subst hx0 hsl2
      have HV:Hid ((∀ k,k < 32→isNode (halfAt B k)=true)→volB B=true):=Lib.hid (fun h=>volB_iff.2 (by
        have h1:volB B=true:=by
          unfold volB
          simp only [Bool.and_eq_true,decide_eq_true_iff,List.all_eq_true,List.mem_range]
          exact ⟨by omega,hsup,by unfold supAt;rw [hX,hn],hhd,hsl,h⟩
        exact volB_iff.1 h1))
      have HVN:Hid (∀ k,k < 32→isNode (halfAt B k)=false→volB B=false):=Lib.hid (fun k hk h=>volB_node hk h)
      have HD:Hid (∀ (k:Nat),k < 32→∀ W,Below w.heap.size w W→Calls Tryz.prog 48 #[.slice (some ⟨g,(3+k / 2) * 64+k%2 * 32,none⟩) 32 (64 - k%2 * 32)] W fun e w'=>∃ xo m xc k0 f l z d0 d1 d2 d3 s t c,e=.returned (.tuple #[.agg #[.int .i64 k0,.int .i64 f,.int .i64 l,.int .i64 z,.int .i64 d0,.int .i64 d1,.int .i64 d2,.int .i64 d3,.int .i64 s,.int .i64 t,.slice xo m xc,.int .i64 c],.int .i64 (decErr (halfAt B k))])∧Below W.heap.size W w'):=Lib.hid (fun k hk W hW=>by
        have hA:=(HRW.out W hW).arg (i:=3+k / 2) (d:=k%2 * 32) (m:=32) (cap:=64 - k%2 * 32) (by omega) (by omega) (by omega)
        refine (ndec_any _ _ _ _ _ hA).mono ?_
        rintro e w' ⟨xo,m,xc,rfl,_,_,hb⟩
        exact ⟨xo,m,xc,_,_,_,_,_,_,_,_,_,_,_,rfl,hb⟩)
      clear hR hn hX hes hY heh hsl hall hsup hhd
      go_enter Tryz.func19,Tryz.ntmps19
      go_wp2_with (first
          | (go_at_call 45;refine (HS.out _ (Below.refl _ _)).mono ?_;rintro e' w3 ⟨rfl,hb3⟩;have HB3:=Lib.hid hb3;clear hb3)
          | (go_at_call 46;refine (HH.out _ (HB3.out.alloc HB3.out.size _)).mono ?_;rintro e' w4 ⟨rfl,hb4⟩;have hb3:=HB3.out.alloc HB3.out.size;have HB4:=Lib.hid ((HB3.out.alloc HB3.out.size _).trans (hb4.mono (HB3.out.alloc HB3.out.size _).size));clear hb4 hb3)
          | (go_at_call 47;refine (HSE.out _ (HB4.out.alloc HB4.out.size _)).mono ?_;rintro e' w5 ⟨rfl,hb5⟩;have HB5:=Lib.hid ((HB4.out.alloc HB4.out.size _).trans (hb5.mono (HB4.out.alloc HB4.out.size _).size));clear hb5))
      have hb5:Below w.heap.size w (w5.alloc (.cells #[.slice (some ⟨g,0,none⟩) n cap,.slice none 0 0] 78)):=HB5.out.alloc HB5.out.size _
      have HJ0:Hid (Below w.heap.size w (w5.alloc (.cells #[.slice (some ⟨g,0,none⟩) n cap,.slice none 0 0] 78))∧(w5.alloc (.cells #[.slice (some ⟨g,0,none⟩) n cap,.slice none 0 0] 78)).cell? ⟨w5.heap.size,0,none⟩=some (.slice (some ⟨g,0,none⟩) n cap)∧∀ k,k < 0→isNode (halfAt B k)=true):=Lib.hid ⟨hb5,by rw [World.cell?_alloc_new];rfl,fun k hk=>absurd hk (by omega)⟩
      clear hb5 HS HH HSE
      go_loopw [46] (fun kv wr=>∃ i:Nat,i≤32∧kv=.int .i64 i∧Hid (Below w.heap.size w wr∧wr.cell? ⟨w5.heap.size,0,none⟩=some (.slice (some ⟨g,0,none⟩) n cap)∧∀ k,k < i→isNode (halfAt B k)=true)) (fun kv _=>32 - (intOf kv).toNat)
      case atStart=>exact ⟨0,Nat.zero_le _,rfl,HJ0⟩
      case round=>
        obtain ⟨i,hi,rfl,HJ⟩:=hrel
        clear HJ0
        by_cases hlt:i < 32
        · have i2:(i:Int) < 32:=by omega
          have cH:=half_any i HJ.out.2.1 (by omega) hlt
          have cD:=HD.out i hlt wr HJ.out.1
          cases hin:isNode (halfAt B i) with
          | true=>
            rw [show decErr (halfAt B i)=0 by unfold decErr;rw [if_pos hin]] at cD
            have HIN:=Lib.hid hin
            clear hin
            go_wp2_with (first
              | (go_at_call 49;refine cH.mono ?_;rintro e' w' ⟨rfl,rfl⟩)
              | (go_at_call 48;refine cD.mono ?_;rintro e' w6 ⟨xo,xm,xc,k0,nf,nl,nz,d0,d1,d2,d3,ns,nt,nc,rfl,hb6⟩;have HB6:=Lib.hid hb6;clear hb6)
              | (refine wp_store_dead rfl 68 (.tmp 9) (.tmp 53) rfl w6.heap.size #[.int .i64 k0,.int .i64 nf,.int .i64 nl,.int .i64 nz,.int .i64 d0,.int .i64 d1,.int .i64 d2,.int .i64 d3,.int .i64 ns,.int .i64 nt,.slice xo xm xc,.int .i64 nc] rfl rfl (there_new0 _ _ _ rfl) (by kernel_rfl) (one_node ..) rfl ?_;intro w7 hw7;have HB7:Hid (Below wr.heap.size wr w7):=Lib.hid (hw7 _ _ HB6.out.size (HB6.out.alloc HB6.out.size _));clear hw7))
            go_roundw
            case rel=>exact ⟨i+1,by omega,by go_num,Lib.hid ⟨HJ.out.1.trans (HB7.out.mono HJ.out.1.size),cell_later HB7.out HJ.out.2.1,fun k hk=>by
              by_cases e:k=i
              · rw [e];exact HIN.out
              · exact HJ.out.2.2 k (by omega)⟩⟩
            case measure=>simp [intOf];omega
          | false=>
            rw [show decErr (halfAt B i)=2 by unfold decErr;rw [if_neg (by rw [hin];decide)]] at cD
            have HF:=Lib.hid (HVN.out i hlt hin)
            clear hin
            go_wp2_with (first
              | (go_at_call 49;refine cH.mono ?_;rintro e' w' ⟨rfl,rfl⟩)
              | (go_at_call 48;refine cD.mono ?_;rintro e' w6 ⟨xo,xm,xc,k0,nf,nl,nz,d0,d1,d2,d3,ns,nt,nc,rfl,hb6⟩;have HB6:=Lib.hid hb6;clear hb6)
              | (refine wp_store_dead rfl 68 (.tmp 9) (.tmp 53) rfl w6.heap.size #[.int .i64 k0,.int .i64 nf,.int .i64 nl,.int .i64 nz,.int .i64 d0,.int .i64 d1,.int .i64 d2,.int .i64 d3,.int .i64 ns,.int .i64 nt,.slice xo xm xc,.int .i64 nc] rfl rfl (there_new0 _ _ _ rfl) (by kernel_rfl) (one_node ..) rfl ?_;intro w7 hw7;have HB7:Hid (Below wr.heap.size wr w7):=Lib.hid (hw7 _ _ HB6.out.size (HB6.out.alloc HB6.out.size _));clear hw7))
            go_ret
            exact ⟨by rw [HF.out];rfl,HJ.out.1.trans (HB7.out.mono HJ.out.1.size)⟩
        · have hit:i=32:=by omega
          subst hit
          have HT:=Lib.hid (HV.out HJ.out.2.2)
          have HB:=Lib.hid HJ.out.1
          clear HJ
          go_wp2_with fail
          go_ret
          exact ⟨by rw [HT.out];rfl,HB.out⟩
    · have HF:Hid (volB B=false):=Lib.hid (volB_cut (fun h=>hall ⟨h.2.1,by have:=h.2.2.1;unfold supAt at this;rw [hX,hn] at this;exact this,h.2.2.2.1,by rw [← hsl];exact h.2.2.2.2⟩))
      have hway:(es=2)∨(es=0∧(x0 != (n:Int))=true)∨(es=0∧x0=(n:Int)∧eh=2)∨(es=0∧x0=(n:Int)∧eh=0∧sl=false):=by
        unfold getSupErr at hes
        unfold getHeadErr at heh
        cases h1:isSup (B.getD 0 []) with
        | false=>rw [if_neg (by rw [h1];decide)] at hes;exact Or.inl hes.symm
        | true=>
          rw [if_pos h1] at hes
          by_cases h2:x0=(n:Int)
          · cases h3:isHead (B.getD 1 []) with
            | false=>rw [if_neg (by rw [h3];decide)] at heh;exact Or.inr (Or.inr (Or.inl ⟨hes.symm,h2,heh.symm⟩))
            | true=>
              rw [if_pos h3] at heh
              refine Or.inr (Or.inr (Or.inr ⟨hes.symm,h2,heh.symm,?_⟩))
              cases h4:sl with
              | false=>rfl
              | true=>exact absurd ⟨h1,h2,h3,h4⟩ hall
          · exact Or.inr (Or.inl ⟨hes.symm,by simpa using h2⟩)
      clear hR hn hX hes hY heh hsl hall
      rcases hway with rfl | ⟨rfl,hne⟩ | ⟨rfl,rfl,rfl⟩ | ⟨rfl,rfl,rfl,rfl⟩
      all_goals
        go_enter Tryz.func19,Tryz.ntmps19
        go_wp2_with (first
          | (go_at_call 45;refine (HS.out _ (Below.refl _ _)).mono ?_;rintro e' w3 ⟨rfl,hb3⟩;have HB3:=Lib.hid hb3;clear hb3)
          | (go_at_call 46;refine (HH.out _ (HB3.out.alloc HB3.out.size _)).mono ?_;rintro e' w4 ⟨rfl,hb4⟩;have hb3:=HB3.out.alloc HB3.out.size;have HB4:=Lib.hid ((HB3.out.alloc HB3.out.size _).trans (hb4.mono (HB3.out.alloc HB3.out.size _).size));clear hb4 hb3)
          | (go_at_call 47;refine (HSE.out _ (HB4.out.alloc HB4.out.size _)).mono ?_;rintro e' w5 ⟨rfl,hb5⟩;have HB5:=Lib.hid ((HB4.out.alloc HB4.out.size _).trans (hb5.mono (HB4.out.alloc HB4.out.size _).size));clear hb5))
        go_ret
        exact ⟨by rw [HF.out];rfl,by first | exact HB5.out | exact HB4.out.alloc HB4.out.size _ | exact HB3.out.alloc HB3.out.size _⟩
end Go.Proofs.YtcefmpnijjcekaaGreatDoor
namespace Go.Proofs.YtcefmpnijjcekaaGreatDoor
open Go.RowKit
set_option maxRecDepth 100000 in
theorem isound_few {w:World} {ao:Option Addr} {n cap:Nat} (h:n < 64) :
    Calls Tryz.prog 19 #[.slice ao n cap] w fun e w'=>e=.returned (.bool false)∧w=w':=by
  have i1:(n:Int) < 64:=by omega
  clear h
  go_enter Tryz.func19,Tryz.ntmps19
  go_wp2_with fail
  go_ret
  exact ⟨rfl,rfl⟩
def openB (B:List (List Int)):Bool:=len64 B&&volB B
def OpenDone (w:World) (B:List (List Int)) (e:Ending) (w':World):Prop:=
  ((openB B=true∧∃ a F',e=.returned (.tuple #[.pointer (some a),.int .i64 0])∧ImgI w' a F' ⟨B,B,B⟩∧∀ k,F' k→w.heap.size≤k)∨(openB B=false∧e=.returned (.tuple #[.pointer none,.int .i64 2])))∧Below w.heap.size w w'
set_option maxRecDepth 100000 in
set_option maxHeartbeats 3200000 in
theorem iopen_any {ao:Option Addr} {m c:Nat} {B:List (List Int)} (w:World) (hX:RowsIn w ao m c B) (hm:∀ i,i≤m→(∀ j,j < i→(B.getD j []).length=64)→i≤99999) (hm2:m≤140737488351232) :
    Calls Tryz.prog 5 #[.slice ao m c] w (OpenDone w B):=by
  have hl:=hX.1
  have hm9:=hm m (Nat.le_refl _)
  have cA:=arrays_any w hX hm hm2
  clear hX hm
  cases h64:len64 B with
  | false=>
    have HO:=Lib.hid (show openB B=false by unfold openB;rw [h64];rfl)
    have cA2:Calls Tryz.prog 18 #[.slice ao m c] w fun e w'=>e=.returned (.tuple #[.slice none 0 0,.bool false])∧Below w.heap.size w w':=cA.mono (fun e w' h=>by
      rcases h.1 with ⟨h1,_⟩ | ⟨_,h2⟩
      · rw [h64] at h1;cases h1
      · exact ⟨h2,h.2⟩)
    clear cA h64 hl hm9
    go_enter Tryz.func5,Tryz.ntmps5
    go_wp2_with (go_at_call 18;refine cA2.mono ?_;rintro e w1 ⟨rfl,hb⟩;have HB:=Lib.hid hb;clear hb)
    go_ret2
    exact ⟨Or.inr ⟨HO.out,rfl⟩,HB.out⟩
  | true=>
    have hall:∀ j,j < m→(B.getD j []).length=64:=fun j hj=>len64_iff.1 h64 j (by omega)
    have h99:=hm9 hall
    have cA2:Calls Tryz.prog 18 #[.slice ao m c] w fun e w'=>∃ ao cap,e=.returned (.tuple #[.slice ao m cap,.bool true])∧w'.ownsRow w.heap.size 84 64 (.slice ao m cap) m (flat B)∧All64 B∧Below w.heap.size w w':=cA.mono (fun e w' h=>by
      rcases h.1 with ⟨_,a2,c2,h2,h3,h4⟩ | ⟨h1,_⟩
      · rw [hl] at h2 h3
        exact ⟨a2,c2,h2,h3,h4,h.2⟩
      · rw [h64] at h1;cases h1)
    by_cases h0:m=0
    · subst h0
      have HO:=Lib.hid (show openB B=false by
        unfold openB
        rw [volB_cut (fun h=>by have:=h.1;omega),Bool.and_false])
      clear cA h64 hl hm9 hall h99
      go_enter Tryz.func5,Tryz.ntmps5
      go_wp2_with (first
        | (go_at_call 18;refine cA2.mono ?_;rintro e w1 ⟨a2,c2,rfl,_,_,hb⟩;have HB:=Lib.hid hb;clear hb)
        | (go_at_call 19;refine (isound_few (by decide)).mono ?_;rintro e w2 ⟨rfl,rfl⟩))
      go_ret2
      exact ⟨Or.inr ⟨HO.out,rfl⟩,HB.out⟩
    · have cA3:Calls Tryz.prog 18 #[.slice ao m c] w fun e w'=>∃ g cap,e=.returned (.tuple #[.slice (some ⟨g,0,none⟩) m cap,.bool true])∧(Rw w' g B∧w.heap.size≤g∧m≤cap)∧Below w.heap.size w w':=cA2.mono (fun e w' ⟨a2,c2,he,h3,h4,h5⟩=>by
        obtain ⟨g,cap,hv,hc,_,hg,_,hr⟩:=rw_of_owns h3 h4 (by omega)
        rw [hv] at he
        exact ⟨g,cap,he,⟨hr,hg,hc⟩,h5⟩)
      clear cA cA2
      cases hv:volB B with
      | false=>
        have HO:=Lib.hid (show openB B=false by unfold openB;rw [hv,Bool.and_false])
        have HV:=Lib.hid hv
        have HL:=Lib.hid hl
        have HM:=Lib.hid (show 0 < m∧m≤100000 from ⟨by omega,by omega⟩)
        clear h64 hl hm9 hall h99 hv
        go_enter Tryz.func5,Tryz.ntmps5
        go_wp2_with (first
          | (go_at_call 18;refine cA3.mono ?_;rintro e w1 ⟨g2,c2,rfl,hr,hb⟩;have HB:=Lib.hid hb;have HR:=Lib.hid hr;clear hb hr)
          | (go_at_call 19;have cS:=isound_any HR.out.1 HL.out HM.out.1 HR.out.2.2 HM.out.2;rw [HV.out] at cS;refine cS.mono ?_;rintro e w2 ⟨rfl,hb⟩;have HB2:=Lib.hid (HB.out.trans (hb.mono HB.out.size));clear hb cS))
        go_ret2
        exact ⟨Or.inr ⟨HO.out,rfl⟩,HB2.out⟩
      | true=>
        have HO:=Lib.hid (show openB B=true by unfold openB;rw [hv,h64];rfl)
        have hVol:=volB_iff.1 hv
        have HV:=Lib.hid hv
        have HL:=Lib.hid hl
        have HM:=Lib.hid (show 0 < m∧m≤480 from ⟨by omega,by have:=hVol.n64.2;omega⟩)
        clear h64 hl hm9 hall h99 hv hVol
        go_enter Tryz.func5,Tryz.ntmps5
        go_wp2_with (first
          | (go_at_call 18;refine cA3.mono ?_;rintro e w1 ⟨g2,c2,rfl,hr,hb⟩;have HB:=Lib.hid hb;have HR:=Lib.hid hr;clear hb hr)
          | (go_at_call 19;have cS:=isound_any HR.out.1 HL.out HM.out.1 HR.out.2.2 (by have:=HM.out.2;omega);rw [HV.out] at cS;refine cS.mono ?_;rintro e w2 ⟨rfl,hb⟩;have HB2:=Lib.hid (HB.out.trans (hb.mono HB.out.size));have HR2:=Lib.hid (HR.out.1.later (by rw [HL.out];exact HM.out.1) hb);clear hb cS)
          | (go_at_call 20;refine (iof_any HR2.out HL.out HM.out.1 HM.out.2 HR.out.2.2).mono ?_;rintro e w3 ⟨a,F',rfl,hI,hF,hb⟩;have H3:=Lib.hid (And.intro hI (And.intro hF hb));clear hI hF hb))
        go_ret2
        refine ⟨Or.inl ⟨HO.out,a,F',rfl,H3.out.1,fun k hk=>?_⟩,HB2.out.trans (H3.out.2.2.mono HB2.out.size)⟩
        have h2:=HB2.out.size
        have h3:=HR.out.2.1
        rcases H3.out.2.1 k hk with e | e <;> omega
end Go.Proofs.YtcefmpnijjcekaaGreatDoor
namespace Go.Proofs.YtcefmpnijjcekaaGreatDoor
open Go.RowKit
theorem in08_any (n lo hi:Int) (w:World):Calls Tryz.prog 39 #[.int .i64 n,.int .i64 lo,.int .i64 hi] w fun e w'=>e=.returned (.bool (decide (lo≤n∧n≤hi)))∧w=w':=by
  by_cases h1:lo≤n
  · by_cases h2:n≤hi
    · rw [decide_eq_true (And.intro h1 h2)]
      go_enter Tryz.func39,Tryz.ntmps39
      go_wp2
      go_ret
      exact ⟨rfl,rfl⟩
    · rw [decide_eq_false (fun h=>h2 h.2)]
      go_enter Tryz.func39,Tryz.ntmps39
      go_wp2
      go_ret
      exact ⟨rfl,rfl⟩
  · rw [decide_eq_false (fun h=>h1 h.1)]
    go_enter Tryz.func39,Tryz.ntmps39
    go_wp2
    go_ret
    exact ⟨rfl,rfl⟩
theorem wp_append_text8 {ops:Array Oper} {rest:List Oper} {o:Oper} {a:Act} {Q:Exit→Act→World→Prop} {w:World} (hgd:o.guard=none) (s x:Operand)
    (ho:o.op=.call { callee:=.builtin .append,args:=#[s,x],argTypes:=#[44,9] }) (base n:Nat) (v:Value) (xs:List Value) (hs:a.eval s=v) (hown:w.ownsRow base 5 1 v n xs)
    (t:ByteArray) (hx:a.eval x=.string t) (hb:n+t.size≤140737488355328) (hbase:base≤w.heap.size)
    (h:∀ v' w',w'.ownsRow base 5 1 v' (n+t.size) (xs ++ (bytesOf t).map (Value.int .u8))→Below base w w'→wpList Tryz.prog ops Q rest (a.put o.dst v') w'):wpList Tryz.prog ops Q (o::rest) a w:=by
  obtain ⟨i0,hi,hz0,hz1,hz2⟩:=info_parts info5
  refine Lib.wpList_append_own_string (P:=Tryz.prog) w hgd s x 44 9 ho base 5 i0 Tryz.underlying44 Tryz.underlying9 hi hz0 hz1 hz2 v n xs hs hown t hx (by unfold maxLen;omega) hb hbase (fun v' w' h1 h2 _=>h v' w' (by rw [← strCells_bytes];exact h1) ((Below.refl base w).grown h2 hbase (fun k hk=>(hown.lt k hk).1)))
theorem put08 {base:Nat} {w:World} {v:Value} {len:Nat} {zs:List Int} {n:Int} {kz:Int} (k:Nat) (e:kz=k) (hown:w.ownsRow base 5 1 v len (zs.map (Value.int .u8))) (hbase:base≤w.heap.size)
    (hn:0≤n∧n≤1073741824) (hk:k≤8) (hlen:len≤1000):Calls Tryz.prog 40 #[v,.int .i64 n,.int .i64 kz] w (PutPost base w (len+k) (zs ++ leB n k)):=by
  subst e
  exact Put04_any base v len zs n k w hown hbase hn.1 (by omega) hk (by omega)
theorem seal08 {base n:Nat} {w:World} {v:Value} {zs:List Int} (h:w.ownsRow base 5 1 v n (zs.map (Value.int .u8))) (hz:∀ z ∈ zs,0≤z∧z≤255) (hn:n≤1000):Calls Tryz.prog 41 #[v] w (Gives w.heap.size w (sealOf sumS zs)):=by
  obtain ⟨ao,cap,rfl,hA,_⟩:=fresh_of_owns h hz (by omega)
  exact Seal04_any ao _ cap zs w hA
theorem made_at (w:World) (cs:Array Value) (T:TypeId) (j:Nat) (v:Value) (h:cs[j]?=some v):(w.alloc (.cells cs T)).cell? ⟨w.heap.size,j,none⟩=some v:=by
  rw [World.cell?_alloc_new]
  exact h
theorem made_empty (w:World) (cs:Array Value) (T:TypeId):Hid (((w.alloc (.cells cs T)).alloc (.cells #[] 5)).ownsRow (w.heap.size+1) 5 1 (.slice (some ⟨w.heap.size+1,0,none⟩) 0 0) 0 [])∧Hid (Below (w.heap.size+1) (w.alloc (.cells cs T)) ((w.alloc (.cells cs T)).alloc (.cells #[] 5))):=by
  have h1:=World.ownsRow_made (base:=(w.alloc (.cells cs T)).heap.size) (e:=5) (size:=1) (w.alloc (.cells cs T)) #[] 0 (Nat.le_refl _) (by decide) rfl
  have h2:Below (w.alloc (.cells cs T)).heap.size (w.alloc (.cells cs T)) ((w.alloc (.cells cs T)).alloc (.cells #[] 5)):=(Below.refl _ _).alloc (Nat.le_refl _) _
  rw [World.size_alloc] at h1 h2
  exact ⟨Lib.hid h1,Lib.hid h2⟩
set_option maxHeartbeats 1600000 in
theorem put08_any (h:PHead) (w:World) (hi:h.in64):Calls Tryz.prog 52 #[h.val] w (Handed w.heap.size w (headOut h) (headErr h)):=by
  obtain ⟨a,b⟩:=h
  obtain ⟨ia,ib⟩:=hi
  unfold PHead.val
  by_cases ha:0≤a∧a≤39
  case neg=>
    have HE:Hid (headErr (⟨a,b⟩:PHead)=2∧headOut (⟨a,b⟩:PHead)=[]):=Lib.hid (by
      have e:(⟨a,b⟩:PHead).sound=false:=by unfold PHead.sound;rw [decide_eq_false_iff_not];intro h;have h1:0≤a∧a≤39∧1≤b∧b≤1073741824:=h;exact ha (by omega)
      unfold headErr headOut;rw [e];exact ⟨rfl,rfl⟩)
    have ca:=Lib.hid (decide_eq_false ha)
    clear ha
    go_enter Tryz.func52,Tryz.ntmps52
    go_wp2_with (first | (go_at_call 39;refine (in08_any _ _ _ _).mono ?_;rintro e w1 ⟨rfl,rfl⟩;first | rw [ca.out]))
    go_ret2
    exact ⟨.slice none 0 0,by rw [HE.out.1];rfl,by rw [HE.out.2];exact Fresh.nil _ _,(Below.refl _ _).alloc (Nat.le_refl _) _⟩
  by_cases hb:1≤b∧b≤1073741824
  case neg=>
    have HE:Hid (headErr (⟨a,b⟩:PHead)=2∧headOut (⟨a,b⟩:PHead)=[]):=Lib.hid (by
      have e:(⟨a,b⟩:PHead).sound=false:=by unfold PHead.sound;rw [decide_eq_false_iff_not];intro h;have h1:0≤a∧a≤39∧1≤b∧b≤1073741824:=h;exact hb (by omega)
      unfold headErr headOut;rw [e];exact ⟨rfl,rfl⟩)
    have ca:=Lib.hid (decide_eq_true ha)
    have cb:=Lib.hid (decide_eq_false hb)
    clear ha hb
    go_enter Tryz.func52,Tryz.ntmps52
    go_wp2_with (first | (go_at_call 39;refine (in08_any _ _ _ _).mono ?_;rintro e w1 ⟨rfl,rfl⟩;first | rw [ca.out] | rw [cb.out]))
    go_ret2
    exact ⟨.slice none 0 0,by rw [HE.out.1];rfl,by rw [HE.out.2];exact Fresh.nil _ _,(Below.refl _ _).alloc (Nat.le_refl _) _⟩
  have HE:Hid (headErr (⟨a,b⟩:PHead)=0∧headOut (⟨a,b⟩:PHead)=sealOf sumS (headB (⟨a,b⟩:PHead))):=Lib.hid (by
    have e:(⟨a,b⟩:PHead).sound=true:=by unfold PHead.sound;rw [decide_eq_true_iff];show 0≤a∧a≤39∧1≤b∧b≤1073741824;omega
    unfold headErr headOut;rw [e];exact ⟨rfl,rfl⟩)
  have ca:=Lib.hid (decide_eq_true ha)
  have Ha:Hid (0≤a∧a≤1073741824):=Lib.hid (by omega)
  have cb:=Lib.hid (decide_eq_true hb)
  have Hb:Hid (0≤b∧b≤1073741824):=Lib.hid (by omega)
  clear ha hb
  obtain ⟨W,hW⟩:∃ W,W=w.alloc (.cells #[.int .i64 a,.int .i64 b] 60):=⟨_,rfl⟩
  have HBW:Hid (Below w.heap.size w W):=Lib.hid (by rw [hW];exact (Below.refl _ _).alloc (Nat.le_refl _) _)
  have F0a:Hid (W.cell? ⟨w.heap.size,0,none⟩=some (.int .i64 a)):=Lib.hid (by rw [hW];exact made_at _ _ _ _ _ rfl)
  have F0b:Hid (W.cell? ⟨w.heap.size,1,none⟩=some (.int .i64 b)):=Lib.hid (by rw [hW];exact made_at _ _ _ _ _ rfl)
  have HWL:Hid (w.heap.size≤W.heap.size):=Lib.hid HBW.out.size
  have HW:=Lib.hid hW
  clear hW
  obtain ⟨HM,HN⟩:=made_empty w #[.int .i64 a,.int .i64 b] 60
  go_enter Tryz.func52,Tryz.ntmps52
  go_wp2_with (first
    | (go_at_call 39;refine (in08_any _ _ _ _).mono ?_;rintro e w1 ⟨rfl,rfl⟩;first | rw [ca.out] | rw [cb.out])
    | (go_at_call 41;refine (seal08 O3.out (headB_bytes (⟨a,b⟩:PHead)) (by decide)).mono ?_;rintro e w4 ⟨v4,rfl,h5,b5⟩;have B4:=Lib.hid (B3.out.trans (b5.mono B3.out.size));have R4:=Lib.hid (h5.mono (Nat.le_trans HWL.out B3.out.size));clear h5 b5)
    | (go_at_call 40;refine (put08 4 rfl O2.out (B2.out.size) Hb.out (by decide) (by decide)).mono ?_;rintro e w3 ⟨v3,rfl,h5,b5⟩;have B3:=Lib.hid (B2.out.trans b5);have O3:=Lib.hid h5;have f3a:=cell_later B3.out F0a.out;have f3b:=cell_later B3.out F0b.out;clear h5 b5)
    | (go_at_call 40;refine (put08 4 rfl O1.out (B1.out.size) Ha.out (by decide) (by decide)).mono ?_;rintro e w2 ⟨v2,rfl,h5,b5⟩;have B2:=Lib.hid (B1.out.trans b5);have O2:=Lib.hid h5;have f2a:=cell_later B2.out F0a.out;have f2b:=cell_later B2.out F0b.out;clear h5 b5)
    | (at_builtin;refine wp_append_text8 rfl (.tmp 15) _ rfl (w.heap.size+1) 0 _ [] rfl HM.out _ rfl (by decide) (by simp) ?_;intro v1 w1 hown1 hb1;have hb2:=HN.out.trans hb1;rw [← World.size_alloc w (.cells #[.int .i64 a,.int .i64 b] 60),← HW.out] at hown1 hb2;have B1:=Lib.hid hb2;have O1:Hid (w1.ownsRow W.heap.size 5 1 v1 4 (headT.map (Value.int .u8))):=Lib.hid hown1;have f1a:=cell_later B1.out F0a.out;have f1b:=cell_later B1.out F0b.out;clear hown1 hb1 hb2))
  go_ret2
  exact ⟨_,by rw [HE.out.1];rfl,by rw [HE.out.2];exact R4.out,HBW.out.trans (B4.out.mono HWL.out)⟩
set_option maxHeartbeats 1600000 in
theorem enc08_any (h:PSup) (w:World) (hi:h.in64):Calls Tryz.prog 14 #[h.val] w (Handed w.heap.size w (supOut h) (supErr h)):=by
  obtain ⟨a,b,c,d,e⟩:=h
  obtain ⟨ia,ib,ic,id,ie⟩:=hi
  unfold PSup.val
  by_cases ha:64≤a∧a≤480
  case neg=>
    have HE:Hid (supErr (⟨a,b,c,d,e⟩:PSup)=2∧supOut (⟨a,b,c,d,e⟩:PSup)=[]):=Lib.hid (by
      have e:(⟨a,b,c,d,e⟩:PSup).sound=false:=by unfold PSup.sound;rw [decide_eq_false_iff_not];intro h;have h1:64≤a∧a≤480∧1≤b∧b≤3∧0≤c∧c≤3∧0≤d∧d≤32∧0≤e∧e≤480:=h;exact ha (by omega)
      unfold supErr supOut;rw [e];exact ⟨rfl,rfl⟩)
    have ca:=Lib.hid (decide_eq_false ha)
    clear ha
    go_enter Tryz.func14,Tryz.ntmps14
    go_wp2_with (first | (go_at_call 39;refine (in08_any _ _ _ _).mono ?_;rintro e w1 ⟨rfl,rfl⟩;first | rw [ca.out]))
    go_ret2
    exact ⟨.slice none 0 0,by rw [HE.out.1];rfl,by rw [HE.out.2];exact Fresh.nil _ _,(Below.refl _ _).alloc (Nat.le_refl _) _⟩
  by_cases hb:1≤b∧b≤3
  case neg=>
    have HE:Hid (supErr (⟨a,b,c,d,e⟩:PSup)=2∧supOut (⟨a,b,c,d,e⟩:PSup)=[]):=Lib.hid (by
      have e:(⟨a,b,c,d,e⟩:PSup).sound=false:=by unfold PSup.sound;rw [decide_eq_false_iff_not];intro h;have h1:64≤a∧a≤480∧1≤b∧b≤3∧0≤c∧c≤3∧0≤d∧d≤32∧0≤e∧e≤480:=h;exact hb (by omega)
      unfold supErr supOut;rw [e];exact ⟨rfl,rfl⟩)
    have ca:=Lib.hid (decide_eq_true ha)
    have cb:=Lib.hid (decide_eq_false hb)
    clear ha hb
    go_enter Tryz.func14,Tryz.ntmps14
    go_wp2_with (first | (go_at_call 39;refine (in08_any _ _ _ _).mono ?_;rintro e w1 ⟨rfl,rfl⟩;first | rw [ca.out] | rw [cb.out]))
    go_ret2
    exact ⟨.slice none 0 0,by rw [HE.out.1];rfl,by rw [HE.out.2];exact Fresh.nil _ _,(Below.refl _ _).alloc (Nat.le_refl _) _⟩
  by_cases hc:0≤c∧c≤3
  case neg=>
    have HE:Hid (supErr (⟨a,b,c,d,e⟩:PSup)=2∧supOut (⟨a,b,c,d,e⟩:PSup)=[]):=Lib.hid (by
      have e:(⟨a,b,c,d,e⟩:PSup).sound=false:=by unfold PSup.sound;rw [decide_eq_false_iff_not];intro h;have h1:64≤a∧a≤480∧1≤b∧b≤3∧0≤c∧c≤3∧0≤d∧d≤32∧0≤e∧e≤480:=h;exact hc (by omega)
      unfold supErr supOut;rw [e];exact ⟨rfl,rfl⟩)
    have ca:=Lib.hid (decide_eq_true ha)
    have cb:=Lib.hid (decide_eq_true hb)
    have cc:=Lib.hid (decide_eq_false hc)
    clear ha hb hc
    go_enter Tryz.func14,Tryz.ntmps14
    go_wp2_with (first | (go_at_call 39;refine (in08_any _ _ _ _).mono ?_;rintro e w1 ⟨rfl,rfl⟩;first | rw [ca.out] | rw [cb.out] | rw [cc.out]))
    go_ret2
    exact ⟨.slice none 0 0,by rw [HE.out.1];rfl,by rw [HE.out.2];exact Fresh.nil _ _,(Below.refl _ _).alloc (Nat.le_refl _) _⟩
  by_cases hd:0≤d∧d≤32
  case neg=>
    have HE:Hid (supErr (⟨a,b,c,d,e⟩:PSup)=2∧supOut (⟨a,b,c,d,e⟩:PSup)=[]):=Lib.hid (by
      have e:(⟨a,b,c,d,e⟩:PSup).sound=false:=by unfold PSup.sound;rw [decide_eq_false_iff_not];intro h;have h1:64≤a∧a≤480∧1≤b∧b≤3∧0≤c∧c≤3∧0≤d∧d≤32∧0≤e∧e≤480:=h;exact hd (by omega)
      unfold supErr supOut;rw [e];exact ⟨rfl,rfl⟩)
    have ca:=Lib.hid (decide_eq_true ha)
    have cb:=Lib.hid (decide_eq_true hb)
    have cc:=Lib.hid (decide_eq_true hc)
    have cd:=Lib.hid (decide_eq_false hd)
    clear ha hb hc hd
    go_enter Tryz.func14,Tryz.ntmps14
    go_wp2_with (first | (go_at_call 39;refine (in08_any _ _ _ _).mono ?_;rintro e w1 ⟨rfl,rfl⟩;first | rw [ca.out] | rw [cb.out] | rw [cc.out] | rw [cd.out]))
    go_ret2
    exact ⟨.slice none 0 0,by rw [HE.out.1];rfl,by rw [HE.out.2];exact Fresh.nil _ _,(Below.refl _ _).alloc (Nat.le_refl _) _⟩
  by_cases he:0≤e∧e≤480
  case neg=>
    have HE:Hid (supErr (⟨a,b,c,d,e⟩:PSup)=2∧supOut (⟨a,b,c,d,e⟩:PSup)=[]):=Lib.hid (by
      have e:(⟨a,b,c,d,e⟩:PSup).sound=false:=by unfold PSup.sound;rw [decide_eq_false_iff_not];intro h;have h1:64≤a∧a≤480∧1≤b∧b≤3∧0≤c∧c≤3∧0≤d∧d≤32∧0≤e∧e≤480:=h;exact he (by omega)
      unfold supErr supOut;rw [e];exact ⟨rfl,rfl⟩)
    have ca:=Lib.hid (decide_eq_true ha)
    have cb:=Lib.hid (decide_eq_true hb)
    have cc:=Lib.hid (decide_eq_true hc)
    have cd:=Lib.hid (decide_eq_true hd)
    have ce:=Lib.hid (decide_eq_false he)
    clear ha hb hc hd he
    go_enter Tryz.func14,Tryz.ntmps14
    go_wp2_with (first | (go_at_call 39;refine (in08_any _ _ _ _).mono ?_;rintro e w1 ⟨rfl,rfl⟩;first | rw [ca.out] | rw [cb.out] | rw [cc.out] | rw [cd.out] | rw [ce.out]))
    go_ret2
    exact ⟨.slice none 0 0,by rw [HE.out.1];rfl,by rw [HE.out.2];exact Fresh.nil _ _,(Below.refl _ _).alloc (Nat.le_refl _) _⟩
  have HE:Hid (supErr (⟨a,b,c,d,e⟩:PSup)=0∧supOut (⟨a,b,c,d,e⟩:PSup)=sealOf sumS (supB (⟨a,b,c,d,e⟩:PSup))):=Lib.hid (by
    have e:(⟨a,b,c,d,e⟩:PSup).sound=true:=by unfold PSup.sound;rw [decide_eq_true_iff];show 64≤a∧a≤480∧1≤b∧b≤3∧0≤c∧c≤3∧0≤d∧d≤32∧0≤e∧e≤480;omega
    unfold supErr supOut;rw [e];exact ⟨rfl,rfl⟩)
  have ca:=Lib.hid (decide_eq_true ha)
  have Ha:Hid (0≤a∧a≤1073741824):=Lib.hid (by omega)
  have cb:=Lib.hid (decide_eq_true hb)
  have Hb:Hid (0≤b∧b≤1073741824):=Lib.hid (by omega)
  have cc:=Lib.hid (decide_eq_true hc)
  have Hc:Hid (0≤c∧c≤1073741824):=Lib.hid (by omega)
  have cd:=Lib.hid (decide_eq_true hd)
  have Hd:Hid (0≤d∧d≤1073741824):=Lib.hid (by omega)
  have ce:=Lib.hid (decide_eq_true he)
  have He:Hid (0≤e∧e≤1073741824):=Lib.hid (by omega)
  clear ha hb hc hd he
  obtain ⟨W,hW⟩:∃ W,W=w.alloc (.cells #[.int .i64 a,.int .i64 b,.int .i64 c,.int .i64 d,.int .i64 e] 36):=⟨_,rfl⟩
  have HBW:Hid (Below w.heap.size w W):=Lib.hid (by rw [hW];exact (Below.refl _ _).alloc (Nat.le_refl _) _)
  have F0a:Hid (W.cell? ⟨w.heap.size,0,none⟩=some (.int .i64 a)):=Lib.hid (by rw [hW];exact made_at _ _ _ _ _ rfl)
  have F0b:Hid (W.cell? ⟨w.heap.size,1,none⟩=some (.int .i64 b)):=Lib.hid (by rw [hW];exact made_at _ _ _ _ _ rfl)
  have F0c:Hid (W.cell? ⟨w.heap.size,2,none⟩=some (.int .i64 c)):=Lib.hid (by rw [hW];exact made_at _ _ _ _ _ rfl)
  have F0d:Hid (W.cell? ⟨w.heap.size,3,none⟩=some (.int .i64 d)):=Lib.hid (by rw [hW];exact made_at _ _ _ _ _ rfl)
  have F0e:Hid (W.cell? ⟨w.heap.size,4,none⟩=some (.int .i64 e)):=Lib.hid (by rw [hW];exact made_at _ _ _ _ _ rfl)
  have HWL:Hid (w.heap.size≤W.heap.size):=Lib.hid HBW.out.size
  have HW:=Lib.hid hW
  clear hW
  obtain ⟨HM,HN⟩:=made_empty w #[.int .i64 a,.int .i64 b,.int .i64 c,.int .i64 d,.int .i64 e] 36
  go_enter Tryz.func14,Tryz.ntmps14
  go_wp2_with (first
    | (go_at_call 39;refine (in08_any _ _ _ _).mono ?_;rintro e w1 ⟨rfl,rfl⟩;first | rw [ca.out] | rw [cb.out] | rw [cc.out] | rw [cd.out] | rw [ce.out])
    | (go_at_call 41;refine (seal08 O6.out (supB_bytes (⟨a,b,c,d,e⟩:PSup)) (by decide)).mono ?_;rintro e w7 ⟨v7,rfl,h5,b5⟩;have B7:=Lib.hid (B6.out.trans (b5.mono B6.out.size));have R7:=Lib.hid (h5.mono (Nat.le_trans HWL.out B6.out.size));clear h5 b5)
    | (go_at_call 40;refine (put08 2 rfl O5.out (B5.out.size) He.out (by decide) (by decide)).mono ?_;rintro e w6 ⟨v6,rfl,h5,b5⟩;have B6:=Lib.hid (B5.out.trans b5);have O6:=Lib.hid h5;have f6a:=cell_later B6.out F0a.out;have f6b:=cell_later B6.out F0b.out;have f6c:=cell_later B6.out F0c.out;have f6d:=cell_later B6.out F0d.out;have f6e:=cell_later B6.out F0e.out;clear h5 b5)
    | (go_at_call 40;refine (put08 2 rfl O4.out (B4.out.size) Hd.out (by decide) (by decide)).mono ?_;rintro e w5 ⟨v5,rfl,h5,b5⟩;have B5:=Lib.hid (B4.out.trans b5);have O5:=Lib.hid h5;have f5a:=cell_later B5.out F0a.out;have f5b:=cell_later B5.out F0b.out;have f5c:=cell_later B5.out F0c.out;have f5d:=cell_later B5.out F0d.out;have f5e:=cell_later B5.out F0e.out;clear h5 b5)
    | (go_at_call 40;refine (put08 1 rfl O3.out (B3.out.size) Hc.out (by decide) (by decide)).mono ?_;rintro e w4 ⟨v4,rfl,h5,b5⟩;have B4:=Lib.hid (B3.out.trans b5);have O4:=Lib.hid h5;have f4a:=cell_later B4.out F0a.out;have f4b:=cell_later B4.out F0b.out;have f4c:=cell_later B4.out F0c.out;have f4d:=cell_later B4.out F0d.out;have f4e:=cell_later B4.out F0e.out;clear h5 b5)
    | (go_at_call 40;refine (put08 1 rfl O2.out (B2.out.size) Hb.out (by decide) (by decide)).mono ?_;rintro e w3 ⟨v3,rfl,h5,b5⟩;have B3:=Lib.hid (B2.out.trans b5);have O3:=Lib.hid h5;have f3a:=cell_later B3.out F0a.out;have f3b:=cell_later B3.out F0b.out;have f3c:=cell_later B3.out F0c.out;have f3d:=cell_later B3.out F0d.out;have f3e:=cell_later B3.out F0e.out;clear h5 b5)
    | (go_at_call 40;refine (put08 2 rfl O1.out (B1.out.size) Ha.out (by decide) (by decide)).mono ?_;rintro e w2 ⟨v2,rfl,h5,b5⟩;have B2:=Lib.hid (B1.out.trans b5);have O2:=Lib.hid h5;have f2a:=cell_later B2.out F0a.out;have f2b:=cell_later B2.out F0b.out;have f2c:=cell_later B2.out F0c.out;have f2d:=cell_later B2.out F0d.out;have f2e:=cell_later B2.out F0e.out;clear h5 b5)
    | (at_builtin;refine wp_append_text8 rfl (.tmp 33) _ rfl (w.heap.size+1) 0 _ [] rfl HM.out _ rfl (by decide) (by simp) ?_;intro v1 w1 hown1 hb1;have hb2:=HN.out.trans hb1;rw [← World.size_alloc w (.cells #[.int .i64 a,.int .i64 b,.int .i64 c,.int .i64 d,.int .i64 e] 36),← HW.out] at hown1 hb2;have B1:=Lib.hid hb2;have O1:Hid (w1.ownsRow W.heap.size 5 1 v1 4 (dryd.map (Value.int .u8))):=Lib.hid hown1;have f1a:=cell_later B1.out F0a.out;have f1b:=cell_later B1.out F0b.out;have f1c:=cell_later B1.out F0c.out;have f1d:=cell_later B1.out F0d.out;have f1e:=cell_later B1.out F0e.out;clear hown1 hb1 hb2))
  go_ret2
  exact ⟨_,by rw [HE.out.1];rfl,by rw [HE.out.2];exact R7.out,HBW.out.trans (B7.out.mono HWL.out)⟩
end Go.Proofs.YtcefmpnijjcekaaGreatDoor
