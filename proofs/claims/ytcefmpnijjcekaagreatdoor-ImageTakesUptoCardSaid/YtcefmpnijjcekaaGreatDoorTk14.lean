/- Proved here: how the landed tree writes a page into a block (write), and what it reads out of one (read). The conditions stand at each theorem. Proved here: how the landed tree gives each page that is needed a block (place). The conditions stand at each theorem. Proved here: the blocks that the landed tree lays a chart's pages into (blocks). The conditions stand at each .. -/
import Derived.Test.YtcefmpnijjcekaaGreatDoorTk13
import Derived.Test.YtcefmpnijjcekaaGreatDoorTk2
import Derived.Test.YtcefmpnijjcekaaGreatDoorTk1
import Derived.Laws.ResultCell
import Derived.Test.YtcefmpnijjcekaaGreatDoorTk12
import Derived.Deep.RegionWith
import Derived.Deep.QuietTactic
import Derived.BigQuiet
import Derived.Deep.RegionHeld3
import Derived.Test.YtcefmpnijjcekaaGreatDoorTk0
set_option linter.unusedVariables false
set_option linter.unusedSimpArgs false
namespace Go.Proofs.YtcefmpnijjcekaaGreatDoor
open Go.RowKit
theorem wp_idx {ops:Array Oper} {rest:List Oper} {o:Oper} {a:Act} {w:World} {Q:Exit→Act→World→Prop} (hgd:o.guard=none) (x i:Operand) (t:TypeId) (ho:o.op=.index t x i) (v:Value)
    (hr:∀ w,(Instr.index t (a.eval x) (a.eval i)).run Tryz.prog w=.ok v w) (h:wpList Tryz.prog ops Q rest (a.put o.dst v) w):wpList Tryz.prog ops Q (o::rest) a w:=by
  refine wpList_plain hgd fun K hK=>?_
  unfold Oper.wp
  simp [execOp,ho,hr,Result.andThen]
  exact hK _ _ h
theorem idx_ints {t:TypeId} {n:Nat} (hu:Tryz.prog.underlying t=some (.array n 3)) {p:List Int} (hl:p.length=n) {i:Nat} (hi:i < n):∀ w,(Instr.index t (.agg (ints p).toArray) (.int .i64 (i:Int))).run Tryz.prog w=.ok (.int .i64 (p.getD i 0)) w:=by
  intro w
  have z:=Tryz.sizeOf3
  have hp:=part_int w p i (by omega)
  have h3:(i:Int) < (n:Int):=by omega
  unfold Instr.index
  simp [asIntOf,run_underlying hu,z,h3,Result.andThen,hp]
  intro h
  omega
def bytesW (p:List Int) (i:Nat):List Int:=((p.take i).flatMap fun x=>leB x 2) ++ List.replicate (64 - 2 * i) 0
theorem bytesW_succ {p:List Int} {i:Nat} (hi:i < p.length) (h30:i < 30):lay (bytesW p i) (2 * i) (leB (p.getD i 0) 2)=bytesW p (i+1):=by
  unfold bytesW
  have hl:((p.take i).flatMap fun x=>leB x 2).length=2 * i:=by rw [flat_len,List.length_take];omega
  have h:=lay_end ((p.take i).flatMap fun x=>leB x 2) (leB (p.getD i 0) 2) (64 - 2 * i) (by rw [leB_length];omega)
  rw [hl] at h
  rw [h,leB_length,List.take_add_one,List.getElem?_eq_getElem hi,List.flatMap_append]
  have e:p.getD i 0=p[i]:=by rw [List.getD_eq_getElem?_getD,List.getElem?_eq_getElem hi];rfl
  rw [e,show 64 - 2 * (i+1)=64 - 2 * i - 2 by omega]
  simp
theorem bytesW_page {p:List Int} (h:p.length=30):sealOf sumS (bytesW p 30)=pageB p:=by
  have hl:(p.flatMap fun x=>leB x 2).length=60:=by rw [flat_len,h]
  have e:bytesW p 30=(p.flatMap fun x=>leB x 2) ++ List.replicate 4 0:=by
    unfold bytesW
    rw [List.take_of_length_le (by omega)]
  have h64:(bytesW p 30).length=64:=by rw [e,List.length_append,hl,List.length_replicate]
  unfold pageB
  rw [sealOf_take h64,seal_short (by omega),hl,Nat.sub_self,List.replicate_zero,List.append_nil,e,List.take_append_of_le_length (by omega),List.take_of_length_le (by omega)]
theorem set_small (zs:List Int) (i:Nat) (x:Int) (hl:zs.length=64) (hi:i < 30) (hx:0≤x∧x≤65535):setErr 64 (2 * (i:Int)) 2 x=0∧setOut zs (2 * (i:Int)) 2 x=lay zs (2 * i) (leB x 2):=by
  have hf:fErr 64 (2 * (i:Int)) 2=0:=by unfold fErr;rw [if_pos rfl,if_neg (by omega)]
  have he:setErr 64 (2 * (i:Int)) 2 x=0:=by
    unfold setErr
    rw [hf,if_neg (by decide),show (2:Int).toNat=2 from rfl,putK_quot,if_neg (by
      have:x / 256^2=0:=by
        rw [show (256:Int)^2=65536 from rfl]
        omega
      omega)]
  refine ⟨he,?_⟩
  rw [setOut_ok (by rw [hl];exact he),show (2 * (i:Int)).toNat=2 * i by omega,show (2:Int).toNat=2 from rfl,putK_lay]
set_option maxRecDepth 100000 in
set_option maxHeartbeats 6400000 in
theorem trWrite_any (p:List Int) (w:World) (h:p.length=30) (hp:∀ x ∈ p,0≤x∧x≤65535):Calls Tryz.prog 209 #[pageV p] w fun e w'=>∃ v,e=.returned v∧Fresh w' w.heap.size v (pageB p)∧Below w.heap.size w w':=by
  have hr:∀ o T,((w.alloc (.cells (ints p).toArray 223)).alloc (.cells o T)).rangeAt w.heap.size 0 (ints p):=fun o T j v hj=>by
    rw [Nat.zero_add]
    refine cell_later ((Below.refl _ _).alloc (Nat.le_refl _) _) ?_
    rw [World.cell?_alloc_new]
    simpa using hj
  have HI:=Lib.hid (iPage h)
  have HR:=Lib.hid hr
  have HP:=Lib.hid hp
  have HL:=Lib.hid h
  have hmk:∀ W:World,(Instr.makeSlice 44 (.int .i64 64) (.int .i64 64)).run Tryz.prog W=.ok (.slice (some ⟨W.heap.size,0,none⟩) 64 64) (W.alloc (.cells (madeCells #[.int .u8 0] 64) 5)):=fun W=>run_make_bytes W 64 (by decide)
  have HM:Hid (Arg ((w.alloc (.cells (ints p).toArray 223)).alloc (.cells (madeCells #[.int .u8 0] 64) 5)) (some ⟨(w.alloc (.cells (ints p).toArray 223)).heap.size,0,none⟩) 64 64 (List.replicate 64 0)):=Lib.hid (made_arg _ 64 (by decide))
  unfold pageV
  clear hr hp
  go_enter Tryz.func209,Tryz.ntmps209
  go_wp2_with (refine wpList_load_mid rfl 223 (.tmp 1) rfl w.heap.size 0 rfl (ints p) _ (HR.out _ _) uPage rfl HI.out ?_)
  have HB0:Hid (Below w.heap.size w ((w.alloc (.cells (ints p).toArray 223)).alloc (.cells (madeCells #[.int .u8 0] 64) 5))):=Lib.hid (((Below.refl _ _).alloc (Nat.le_refl _) _).alloc (by simp) _)
  go_loopw [3,8] (fun sv iv wr=>∃ i:Nat,iv=.int .i64 (i:Int)∧i≤30∧(∃ ao cap,sv=.slice ao (64:Nat) cap∧Hid (Arg wr ao 64 cap (bytesW p i)))∧Hid (Below w.heap.size w wr)) (fun _ iv _=>30 - (intOf iv).toNat)
  case atStart=>exact ⟨0,rfl,Nat.zero_le _,⟨_,_,rfl,Lib.hid (by have:=HM.out;simpa [bytesW] using this)⟩,HB0⟩
  case round=>
    obtain ⟨i,rfl,hi,⟨ao,cap,rfl,HA⟩,HB⟩:=hrel
    by_cases hlt:i < 30
    · have i1:(i:Int) < 30:=by omega
      have hx:0≤p.getD i 0∧p.getD i 0≤65535:=HP.out _ (by rw [List.getD_eq_getElem?_getD,List.getElem?_eq_getElem (by have:=HL.out;omega)];exact List.getElem_mem _)
      have hIx:=idx_ints uPage HL.out hlt
      have HIX:=Lib.hid hIx
      have hbl:(bytesW p i).length=64:=HA.out.1.1
      have hs:=set_small (bytesW p i) i (p.getD i 0) hbl hlt hx
      rw [bytesW_succ (by rw [HL.out];exact hlt) hlt] at hs
      have cS:=fSet_any ao 64 cap (bytesW p i) (2 * (i:Int)) 2 (p.getD i 0) wr HA.out (by omega) (by decide) (by omega)
      rw [hs.1,hs.2] at cS
      have w2:wrap64 (2 * (i:Int))=2 * (i:Int):=by unfold wrap64;omega
      have hbl2:(bytesW p (i+1)).length=64:=by
        rw [← hs.2]
        have:=hs.1
        rw [← hbl] at this
        rw [setOut_ok this]
        rw [show (2 * (i:Int)).toNat=2 * i by omega,show (2:Int).toNat=2 from rfl,putK_lay,lay_length,hbl]
      have HBL:=Lib.hid hbl2
      generalize p.getD i 0=x at *
      clear hs hx hbl hbl2 hIx
      go_wp2_with (first | (refine wp_idx rfl (.tmp 7) (.tmp 8) 223 rfl _ HIX.out ?_) | (go_at_call 138;refine cS.mono ?_;rintro e w5 ⟨v5,rfl,hf,hb⟩;have HF:=Lib.hid hf;have HB5:=Lib.hid hb;clear hf hb))
      obtain ⟨ao5,cap5,rfl,hA5,_⟩:=HF.out
      rw [HBL.out] at hA5
      go_roundw
      case rel=>exact ⟨i+1,by go_num,by omega,⟨ao5,cap5,by rw [HBL.out],Lib.hid hA5⟩,Lib.hid (HB.out.trans (HB5.out.mono HB.out.size))⟩
      case measure=>simp [intOf];omega
    · obtain rfl:i=30:=by omega
      have cS:=fSeal_any ao 64 cap (bytesW p 30) wr HA.out
      have e1:sealErr 64=0:=rfl
      have e2:sealOut sumS (bytesW p 30)=pageB p:=by
        unfold sealOut
        rw [if_pos HA.out.1.1]
        exact bytesW_page HL.out
      rw [e1,e2] at cS
      clear e1 e2
      go_wp2_with (go_at_call 77;refine cS.mono ?_;rintro e w5 ⟨v5,rfl,hf,hb⟩;have HF:=Lib.hid hf;have HB5:=Lib.hid hb;clear hf hb)
      go_ret
      exact ⟨v5,rfl,HF.out.mono HB.out.size,HB.out.trans (HB5.out.mono HB.out.size)⟩
/-! ### ReadingT a page -/
theorem words_get (zs:List Int) {i:Nat} (hi:i < 30) (hl:zs.length=64):(words zs).getD i 0=getOut zs (2 * (i:Int)) 2:=by
  have hf:fErr zs.length (2 * (i:Int)) 2=0:=by unfold fErr;rw [if_pos hl,if_neg (by omega)]
  unfold getOut words
  rw [if_pos hf,List.getD_eq_getElem?_getD,List.getElem?_map,List.getElem?_range hi,show (2 * (i:Int)).toNat=2 * i by omega]
  rfl
theorem words_length (zs:List Int):(words zs).length=30:=by unfold words;simp
theorem page_there (w:World) (g:Nat) (h:w.rangeAt g 0 (ints (List.replicate 30 0))) (hf:∀ j,w.frozen? ⟨g,j,none⟩=false):w.there g 0 30:=by
  intro j hj
  refine ⟨?_,hf _⟩
  rw [h j (.int .i64 0) (ints_get (by rw [List.getElem?_replicate,if_pos hj]))]
  rfl
theorem results_cell_p {fn:Func} {p:Tmp} {ty:TypeId} (h:fn.results=#[.cell p ty]) (tmps:Array Value) (P:Program) (w:World) :
    (results fn tmps).run P w=((asAddr (tmps.getD p undef)).run P w).andThen fun a w₁=>(loadVar ty a).run P w₁:=by
  simp only [results,h]
  simp [Sem.run_bind,Result.andThen]
theorem iPageA {p:List Int} (h:p.length=30):(Tryz.prog.info? 223).map (·.size)=some (ints p).toArray.size:=by rw [List.size_toArray];exact iPage h
theorem Keeps.frozen {g:Nat} {w w':World} (h:Keeps g w w') {p:Addr} (hp:p.block≠g):w'.frozen? p=w.frozen? p:=World.frozen?_of_block (w:=w) (h.2 p.block hp)
theorem Keeps.there {g b o n:Nat} {w w':World} (h:Keeps g w w') (ht:w.there b o n) (hb:b≠g):w'.there b o n:=fun j hj=>by
  rw [h.cell (p:=⟨b,o+j,none⟩) hb,h.frozen (p:=⟨b,o+j,none⟩) hb]
  exact ht j hj
theorem made_page (w:World):OwnV w.heap.size w w.heap.size (ints (List.replicate 30 0)) (w.alloc (.cells zero30 223)):=by
  refine ⟨fun j x hj=>?_,fun j=>by rw [World.frozen?_alloc_mark];simp,Nat.le_refl _,(Below.refl _ _).alloc (Nat.le_refl _) _⟩
  rw [World.cell?_alloc_new]
  have e:zero30=(ints (List.replicate 30 0)).toArray:=rfl
  rw [e]
  simpa using hj
def ReadingT (w0 w2:World) (P:List Int) (i:Nat) (wr:World):Prop:=
  OwnV w0.heap.size w0 (w0.heap.size+1) (ints (P.take i ++ List.replicate (30 - i) 0)) wr∧Keeps (w0.heap.size+1) w2 wr
theorem set_mid (P:List Int) (i n:Nat) (hi:i < P.length) (hn:i < n) (x:Int) (hx:x=P.getD i 0):(P.take i ++ List.replicate (n - i) 0).set i x=P.take (i+1) ++ List.replicate (n - (i+1)) 0:=by
  have hl2:(P.take i).length=i:=by rw [List.length_take];omega
  have e3:P.take (i+1)=P.take i ++ [x]:=by
    rw [List.take_add_one,List.getElem?_eq_getElem hi,hx,List.getD_eq_getElem?_getD,List.getElem?_eq_getElem hi]
    rfl
  rw [e3,List.set_append_right _ _ (by omega),hl2,Nat.sub_self,show n - i=(n - (i+1))+1 by omega,List.replicate_succ,List.set_cons_zero,List.append_assoc]
  rfl
theorem ReadingT.step {w0 w2 wr:World} {P:List Int} {i:Nat} (h:ReadingT w0 w2 P i wr) (hl:P.length=30) (hi:i < 30) (x:Int) (hx:x=P.getD i 0):ReadingT w0 w2 P (i+1) (wr.setCell ⟨w0.heap.size+1,i,none⟩ (.int .i64 x)):=by
  refine ⟨?_,h.2.trans (Keeps.set wr ⟨w0.heap.size+1,i,none⟩ _)⟩
  have h1:=h.1.store (k:=i) (y:=.int .i64 x) (by rw [ints_length,List.length_append,List.length_take,List.length_replicate];omega)
  rw [← ints_set,set_mid P i 30 (by omega) hi x hx] at h1
  exact h1
set_option maxRecDepth 100000 in
set_option maxHeartbeats 6400000 in
theorem trRead_any (ao:Option Addr) (cap:Nat) (zs:List Int) (w:World) (hA:Arg w ao 64 cap zs):Calls Tryz.prog 239 #[.slice ao (64:Nat) cap] w fun e w'=>e=.returned (pageV (words zs))∧Below w.heap.size w w':=by
  have HA:=Lib.hid hA
  clear hA
  have HWG:=Lib.hid (fun i (hi:i < 30)=>words_get zs hi HA.out.1.1)
  have HPL:=Lib.hid (words_length zs)
  obtain ⟨P,hP⟩:∃ P,words zs=P:=⟨_,rfl⟩
  rw [hP] at HWG HPL ⊢
  clear hP
  have HM:Hid (ReadingT w ((w.alloc (.cells zero30 223)).alloc (.cells zero30 223)) P 0 ((w.alloc (.cells zero30 223)).alloc (.cells zero30 223))):=Lib.hid (by
    have h:=made_page (w.alloc (.cells zero30 223))
    rw [World.size_alloc] at h
    refine ⟨⟨h.1,h.2.1,Nat.le_succ _,((Below.refl _ _).alloc (Nat.le_refl _) _).alloc (by simp) _⟩,Keeps.refl _ _⟩)
  have HT:Hid (((w.alloc (.cells zero30 223)).alloc (.cells zero30 223)).there w.heap.size 0 30):=Lib.hid (by
    have h:=made_page w
    exact World.there_alloc (page_there _ _ (own_range h) h.2.1) _)
  unfold zero30 at HM HT
  go_enter Tryz.func239,Tryz.ntmps239
  go_wp2_with fail
  obtain ⟨W2,hW2⟩:∃ W2,W2=(w.alloc (.cells zero30 223)).alloc (.cells zero30 223):=⟨_,rfl⟩
  unfold zero30 at hW2
  rw [← hW2] at HM HT ⊢
  clear hW2
  go_loopw [5] (fun iv wr=>∃ i:Nat,iv=.int .i64 (i:Int)∧i≤30∧Hid (ReadingT w W2 P i wr)) (fun iv _=>30 - (intOf iv).toNat)
  case atStart=>exact ⟨0,rfl,Nat.zero_le _,HM⟩
  case round=>
    obtain ⟨i,rfl,hi,HR⟩:=hrel
    by_cases hlt:i < 30
    · have i1:(i:Int) < 30:=by omega
      have w2:wrap64 (2 * (i:Int))=2 * (i:Int):=by unfold wrap64;omega
      have cG:=fGet_any ao 64 cap zs (2 * (i:Int)) 2 wr (HA.out.later HR.out.1.2.2.2) (by omega) (by decide)
      have HX:Hid (getOut zs (2 * (i:Int)) 2=P.getD i 0):=Lib.hid (HWG.out i hlt).symm
      have c4:=HR.out.1.1 i _ (ints_get (x:=((P.take i ++ List.replicate (30 - i) 0).getD i 0)) (by
        rw [List.getD_eq_getElem?_getD,List.getElem?_eq_getElem (by rw [List.length_append,List.length_take,List.length_replicate,HPL.out];omega)]
        rfl))
      have f4:=HR.out.1.2.1 i
      generalize (P.take i ++ List.replicate (30 - i) 0).getD i 0=y at *
      generalize getOut zs (2 * (i:Int)) 2=x at *
      generalize fErr 64 (2 * (i:Int)) 2=E at *
      go_wp2_with (go_at_call 141;refine cG.mono ?_;rintro e w5 ⟨rfl,rfl⟩)
      go_roundw
      case rel=>exact ⟨i+1,by go_num,by omega,Lib.hid (HR.out.step HPL.out hlt x HX.out)⟩
      case measure=>simp [intOf];omega
    · obtain rfl:i=30:=by omega
      have HO:Hid (OwnV w.heap.size w (w.heap.size+1) (ints P) wr):=Lib.hid (by
        have h:=HR.out.1
        rw [List.take_of_length_le (by rw [HPL.out];omega),Nat.sub_self,List.replicate_zero,List.append_nil] at h
        exact h)
      have HTh:Hid (wr.there w.heap.size 0 (ints P).toArray.size):=Lib.hid (by
        have e:(ints P).toArray.size=30:=by rw [List.size_toArray,ints_length,HPL.out]
        rw [e]
        exact HR.out.2.there HT.out (by omega))
      have HRG:Hid ((wr.setCells w.heap.size 0 (ints P)).rangeAt w.heap.size 0 (ints P)):=Lib.hid (World.rangeAt_setCells_same _ _ _ _ (by
        have h:=HTh.out
        have e:(ints P).toArray.size=(ints P).length:=by simp
        rwa [e] at h))
      have HBB:Hid (Below w.heap.size w (wr.setCells w.heap.size 0 (ints P).toArray.toList)):=Lib.hid (below_cells _ (Nat.le_refl _) _ _ _ HR.out.1.2.2.2)
      go_wp2_with (first | (refine wpList_load_mid rfl 223 (.tmp 3) rfl (w.heap.size+1) 0 rfl (ints P) _ (own_range HO.out) uPage rfl (iPage (HPL.out)) ?_) | (refine wpList_store_mid rfl 223 (.tmp 2) (.tmp 18) rfl w.heap.size 0 (ints P).toArray rfl rfl HTh.out (iPageA (HPL.out)) (all_oneCell_toArray (ints_one _)) ?_))
      refine bodyPost_ret (v:=pageV P) ?_ rfl ⟨rfl,HBB.out⟩
      rw [results_cell_p rfl]
      simp only [asAddr,Sem.run_pure,Result.andThen_ok]
      exact run_loadVar_mid _ _ _ _ _ _ HRG.out uPage rfl (iPage (HPL.out))
end Go.Proofs.YtcefmpnijjcekaaGreatDoor
namespace Go.Proofs.YtcefmpnijjcekaaGreatDoor
open Go.RowKit
def placeL (L fs:List Int):Nat→List Int
  | 0=>L
  | i+1=>if needsB L i=true then (placeL L fs i).set (154+i) (fs.getD (usedN L i) 0) else placeL L fs i
theorem placeL_length (L fs:List Int):∀ i,(placeL L fs i).length=L.length
  | 0=>rfl
  | i+1=>by
    unfold placeL
    split
    · rw [List.length_set,placeL_length L fs i]
    · exact placeL_length L fs i
theorem placeL_low (L fs:List Int):∀ i j,j < 154→(placeL L fs i)[j]?=L[j]?
  | 0,_,_=>rfl
  | i+1,j,h=>by
    unfold placeL
    split
    · rw [List.getElem?_set_ne (by omega),placeL_low L fs i j h]
    · exact placeL_low L fs i j h
theorem page_low {L M:List Int} (h:∀ j,j < 154→M[j]?=L[j]?) {k:Nat} (hk:k < 5):pageL M k=pageL L k:=by
  unfold pageL
  apply List.ext_getElem?
  intro i
  rw [List.getElem?_take,List.getElem?_take]
  split
  · rw [List.getElem?_drop,List.getElem?_drop,h _ (by omega)]
  · rfl
theorem needs_low {L M:List Int} (h:∀ j,j < 154→M[j]?=L[j]?) {k:Nat} (hk:k < 5):needsB M k=needsB L k:=by
  unfold needsB
  rw [page_low h (by decide:2 < 5),page_low h (by decide:3 < 5),page_low h (by decide:4 < 5),page_low h hk]
def placedL (L fs:List Int):List Int:=lay (placeL L fs 5) 34 (((placeL L fs 5).drop 156).take 3)
theorem usedN_mono (L:List Int) {i j:Nat} (h:i≤j):usedN L i≤usedN L j:=by
  induction h with
  | refl=>exact Nat.le_refl _
  | step _ ih=>rw [usedN_succ];omega
theorem restI (w:World) {ao:Option Addr} {len cap k:Nat} {fs:List Int} (h:IArg w ao len cap fs) (hk:k < len):∃ b off,ao=some ⟨b,off,none⟩∧IArg w (some ⟨b,off+k,none⟩) (len - k) (cap - k) (fs.drop k)∧w.cell? ⟨b,off+k,none⟩=some (.int .i64 (fs.getD k 0))∧fs[k]?=some (fs.getD k 0):=by
  obtain ⟨b,off,x,rfl,hx,hc,_⟩:=h.at hk
  refine ⟨b,off,rfl,h.drop (by omega),?_,?_⟩
  · rw [hc,List.getD_eq_getElem?_getD,hx];rfl
  · rw [List.getD_eq_getElem?_getD,hx];rfl
def LeftI (ao:Option Addr) (len cap k:Nat) (v:Value):Prop:=(∃ a,v=.slice a (len - k) (cap - k))∧(k < len→∀ b off,ao=some ⟨b,off,none⟩→v=.slice (some ⟨b,off+k,none⟩) (len - k) (cap - k))
theorem placeL_i64 {L fs:List Int} (hL:∀ z ∈ L,I64 z) (hf:∀ z ∈ fs,I64 z):∀ i,∀ z ∈ placeL L fs i,I64 z
  | 0,z,hz=>hL z hz
  | i+1,z,hz=>by
    unfold placeL at hz
    split at hz
    · rcases List.mem_or_eq_of_mem_set hz with h | rfl
      · exact placeL_i64 hL hf i z h
      · by_cases hu:usedN L i < fs.length
        · rw [List.getD_eq_getElem?_getD,List.getElem?_eq_getElem hu]
          exact hf _ (List.getElem_mem _)
        · rw [getD_behind _ _ (by omega)]
          exact ⟨by decide,by decide⟩
    · exact placeL_i64 hL hf i z hz
set_option maxRecDepth 100000 in
set_option maxHeartbeats 6400000 in
theorem place_any (g:Nat) (L:List Int) (w0 w:World) (hO:OwnV w0.heap.size w0 g (ints L) w) (hL:L.length=159) (hz:∀ z ∈ L,I64 z) (ao:Option Addr) (len cap:Nat) (fs:List Int) (hA:IArg w0 ao len cap fs) (hn:usedN L 5≤len) :
    Calls Tryz.prog 164 #[.pointer (some ⟨g,0,none⟩),.slice ao len cap] w fun e w'=>e=.returned (.tuple #[])∧OwnV w0.heap.size w0 g (ints (placedL L fs)) w':=by
  have HO:=Lib.hid hO
  have HL:=Lib.hid hL
  have HA:=Lib.hid hA
  have HN:=Lib.hid hn
  have hlc:=hA.2.2.2
  have HZ:=Lib.hid (placeL_i64 (fs:=fs) hz hA.2.1)
  clear hO hL hA hn hz
  have HV0:Hid (LeftI ao len cap (usedN L 0) (.slice ao len cap)):=Lib.hid ⟨⟨ao,rfl⟩,fun _ b off h=>by rw [h];rfl⟩
  go_enter Tryz.func164,Tryz.ntmps164
  go_wp2_with fail
  go_loopw [1,5] (fun sv iv wr=>∃ i:Nat,iv=.int .i64 (i:Int)∧i≤5∧Hid (LeftI ao len cap (usedN L i) sv)∧Hid (OwnV w0.heap.size w0 g (ints (placeL L fs i)) wr)) (fun _ iv _=>5 - (intOf iv).toNat)
  case atStart=>exact ⟨0,rfl,Nat.zero_le _,HV0,HO⟩
  case round=>
    obtain ⟨i,rfl,hi,HV,HR⟩:=hrel
    by_cases hlt:i < 5
    · have HPL:Hid ((placeL L fs i).length=159):=Lib.hid (by rw [placeL_length,HL.out])
      have cN:=needs_any (chart_of_own HR.out HPL.out) hlt
      rw [needs_low (placeL_low L fs i) hlt] at cN
      have i1:(i:Int) < 5:=by omega
      have hu:=usedN_succ L i
      cases hb:needsB L i with
      | false=>
        rw [hb] at cN hu
        have HU:Hid (usedN L (i+1)=usedN L i):=Lib.hid hu
        have HPS:Hid (placeL L fs (i+1)=placeL L fs i):=Lib.hid (by show (if needsB L i=true then _ else _)=_;rw [hb];rfl)
        clear hb hu
        go_wp2_with (go_at_call 161;refine cN.mono ?_;rintro e w5 ⟨rfl,b5⟩;have B5:=Lib.hid b5;clear b5)
        go_roundw
        case rel=>exact ⟨i+1,by go_num,by omega,Lib.hid (by rw [HU.out];exact HV.out),Lib.hid (by rw [HPS.out];exact HR.out.later B5.out (by intro h;have:=congrArg List.length h;rw [ints_length,HPL.out] at this;simp at this))⟩
        case measure=>simp [intOf];omega
      | true=>
        rw [hb] at cN hu
        have hu2:usedN L i < len:=by
          have h1:=usedN_mono L (show i+1≤5 by omega)
          have h2:=HN.out
          have:(true:Bool).toNat=1:=rfl
          omega
        have HU:Hid (usedN L (i+1)=usedN L i+1):=Lib.hid hu
        obtain ⟨b,off,rfl,hR,hc,_⟩:=restI _ (HA.out.later HR.out.2.2.2) hu2
        obtain rfl:=HV.out.2 hu2 b off rfl
        have HPS:Hid (placeL L fs (i+1)=(placeL L fs i).set (154+i) (fs.getD (usedN L i) 0)):=Lib.hid (by show (if needsB L i=true then _ else _)=_;rw [hb];rfl)
        have HU2:=Lib.hid hu2
        obtain ⟨U,hU⟩:∃ U,usedN L i=U:=⟨_,rfl⟩
        rw [hU] at HU HPS HU2 hc hu2 ⊢
        have HCELL:=Lib.hid hc
        clear hb hu hU hR
        go_wp2_with (go_at_call 161;refine cN.mono ?_;rintro e w5 ⟨rfl,b5⟩;have B5:=Lib.hid b5;clear b5)
        have HO5:Hid (OwnV w0.heap.size w0 g (ints (placeL L fs i)) w5):=Lib.hid (HR.out.later B5.out (by intro h;have:=congrArg List.length h;rw [ints_length,HPL.out] at this;simp at this))
        have hcl:w5.cell? ⟨b,off+U,none⟩=some (.int .i64 (fs.getD U 0)):=cell_later B5.out HCELL.out
        have hc4:=HO5.out.1 (154+i) _ (ints_get (x:=(placeL L fs i).getD (154+i) 0) (by rw [List.getD_eq_getElem?_getD,List.getElem?_eq_getElem (by rw [HPL.out];omega)];rfl))
        have hf4:=HO5.out.2.1 (154+i)
        have HST:Hid (OwnV w0.heap.size w0 g (ints (placeL L fs (i+1))) (w5.setCell ⟨g,154+i,none⟩ (.int .i64 (fs.getD U 0)))):=Lib.hid (by
          have h:=HO5.out.store (k:=154+i) (y:=.int .i64 (fs.getD U 0)) (by rw [ints_length,HPL.out];omega)
          rw [← ints_set,← HPS.out] at h
          exact h)
        obtain ⟨l',hl'⟩:∃ l',len - U=l':=⟨_,rfl⟩
        obtain ⟨c',hc'⟩:∃ c',cap - U=c':=⟨_,rfl⟩
        have HLE:Hid (len - (U+1)=l' - 1∧cap - (U+1)=c' - 1):=Lib.hid ⟨by omega,by omega⟩
        have l1:1≤l':=by omega
        have l2:l'≤c':=by omega
        rw [hl',hc']
        have l3:(0:Int) < (l':Int):=by omega
        have n0:0 < l':=by omega
        have n1:1≤c':=by omega
        have n2:0 < c':=by omega
        have n3:i < 5:=hlt
        have l4:(1:Int)≤(l':Int):=by omega
        have l5:(1:Int)≤(c':Int):=by omega
        have i0:(0:Int)≤(i:Int):=by omega
        generalize (placeL L fs i).getD (154+i) 0=y at *
        generalize fs.getD U 0=x at *
        clear hl' hc' hu2 hc
        have e1:154+i * 1=154+i:=by omega
        by_cases hc1:c'=1
        · go_region
          all_goals go_wp2_with fail
          go_roundw
          case rel=>exact ⟨i+1,by go_num,by omega,Lib.hid (by
            rw [HU.out]
            have:=HLE.out
            exact ⟨⟨_,by rw [this.1,this.2,hc1]⟩,fun h=>by omega⟩),Lib.hid HST.out.drew⟩
          case measure=>simp [intOf];omega
        · go_region
          all_goals go_wp2_with fail
          go_roundw
          case rel=>exact ⟨i+1,by go_num,by omega,Lib.hid (by
            rw [HU.out]
            have:=HLE.out
            exact ⟨⟨_,by rw [this.1,this.2]⟩,fun _ b' off' e=>by
              simp only [Option.some.injEq,Addr.mk.injEq,and_true] at e
              obtain ⟨rfl,rfl⟩:=e
              rw [this.1,this.2,Nat.add_assoc]⟩),Lib.hid HST.out.drew⟩
          case measure=>simp [intOf];omega
    · obtain rfl:i=5:=by omega
      have HPL:Hid ((placeL L fs 5).length=159):=Lib.hid (by rw [placeL_length,HL.out])
      have HSRC:Hid (IArg wr.drew (some ⟨g,156,none⟩) 3 3 (((placeL L fs 5).drop 156).take 3)):=Lib.hid (by
        have hl:(((placeL L fs 5).drop 156).take 3).length=3:=by rw [List.length_take,List.length_drop,HPL.out];decide
        have:=iarg_of_range (w:=wr.drew) (b:=g) (off:=156) (cap:=3) (zs:=((placeL L fs 5).drop 156).take 3) (range_part (own_range HR.out.drew) 156 3) (fun z hz=>HZ.out 5 z (List.mem_of_mem_drop (List.mem_of_mem_take hz))) (by omega) (by omega)
        rwa [hl] at this)
      have HCC:=Lib.hid (own_copy_ints (off:=34) (len:=30) (cap:=30) HR.out.drew (by rw [HPL.out];decide) _ _ _ _ HSRC.out 3)
      have HEND:Hid (lay (placeL L fs 5) 34 ((((placeL L fs 5).drop 156).take 3).take 30)=placedL L fs):=Lib.hid (by
        unfold placedL
        rw [List.take_of_length_le (l:=((placeL L fs 5).drop 156).take 3) (by rw [List.length_take];omega)])
      go_wp2_with fail
      refine wp_region_still_tail 9 (by kernel_rfl) (by kernel_rfl) ?_
      simp only [List.take_succ_cons,List.take_zero,List.drop_succ_cons,List.drop_zero]
      try rw [drew_of_r]
      iterate 9 still_step
      refine wpStill_nil ?_
      go_wp2_with (refine wp_copy rfl (.tmp 26) (.tmp 30) 31 31 rfl _ _ rfl rfl _ HCC.out ?_;rintro v5 w5 ⟨rfl,hO5,hK5⟩;have HO5:=Lib.hid hO5;have HK5:=Lib.hid hK5;clear hO5 hK5)
      go_end0
      rw [HEND.out] at HO5
      exact ⟨rfl,HO5.out⟩
end Go.Proofs.YtcefmpnijjcekaaGreatDoor
namespace Go.Proofs.YtcefmpnijjcekaaGreatDoor
open Go.RowKit
def WIs (w:World) (ao:Option Addr) (m:Nat) (ws:List (Int × List Int)):Prop:=
  ws.length=m∧m≤140737488351232∧(m=0∨∃ b off,ao=some ⟨b,off,none⟩∧∀ (j:Nat) (a:Int) (zs:List Int),ws[j]?=some (a,zs)→w.cell? ⟨b,off+j * 2,none⟩=some (.int .i64 a)∧I64 a∧
    ∃ ad len cap,w.cell? ⟨b,off+j * 2+1,none⟩=some (.slice ad len cap)∧Arg w ad len cap zs)
theorem WIs.later {w wx:World} {ao:Option Addr} {m:Nat} {ws:List (Int × List Int)} (h:WIs w ao m ws) (hb:Below w.heap.size w wx):WIs wx ao m ws:=by
  obtain ⟨h1,h2,h3⟩:=h
  refine ⟨h1,h2,h3.imp_right ?_⟩
  rintro ⟨b,off,rfl,hc⟩
  refine ⟨b,off,rfl,fun j a zs hj=>?_⟩
  obtain ⟨c1,c2,ad,len,cap,c3,c4⟩:=hc j a zs hj
  exact ⟨cell_later hb c1,c2,ad,len,cap,cell_later hb c3,c4.later hb⟩
theorem WIs.at {w:World} {ao:Option Addr} {m i:Nat} {ws:List (Int × List Int)} (h:WIs w ao m ws) (hi:i < m):∃ b off a zs ad len cap,ao=some ⟨b,off,none⟩∧ws[i]?=some (a,zs)∧
    w.cell? ⟨b,off+i * 2,none⟩=some (.int .i64 a)∧I64 a∧w.cell? ⟨b,off+i * 2+1,none⟩=some (.slice ad len cap)∧Arg w ad len cap zs:=by
  obtain ⟨h1,h2,h3⟩:=h
  obtain ⟨b,off,rfl,hc⟩:=h3.resolve_left (by omega)
  have hx:ws[i]?=some (ws[i]'(by omega)):=List.getElem?_eq_getElem (by omega)
  obtain ⟨c1,c2,ad,len,cap,c3,c4⟩:=hc i _ _ hx
  exact ⟨b,off,_,_,ad,len,cap,rfl,hx,c1,c2,c3,c4⟩
theorem elemW:ElemR 49 92 (.agg #[.int .i64 0,.slice none 0 0]) 2 32:=⟨Tryz.underlying49,by kernel_rfl,rfl,by decide,by decide⟩
theorem append_block {t e:TypeId} {z:Value} {sz nb:Nat} (hE:ElemR t e z sz nb) (w:World) (ty:TypeId) (base n:Nat) (v v':Value) (w':World) (xs:List Value) (hown:w.ownsRow base e sz v n xs) (ad:Addr) (m c:Nat) (news:List Value) (hl:news.length=m * sz)
    (hx:∀ j u,news[j]?=some u→w.cell? (ad.add j)=some u) (h1:∀ u ∈ news,u.oneCell'=true) (hb:n+m≤100000) (hm:0 < m)
    (hr:(Builtin.append_ #[t,t] ty #[v,.slice (some ad) m c]).run Tryz.prog w=.ok v' w'):v'.ownBlock=v.ownBlock∨v'.ownBlock=some w.heap.size:=by
  obtain ⟨hu,hi,hz,hp,hnb⟩:=hE
  obtain ⟨i0,hi0,hz0,hz1,hz2⟩:=info_parts hi
  have hbytes:(n+m) * i0.bytes≤140737488355328:=by
    rw [hz2]
    have:(n+m) * nb≤100001 * 64:=Nat.mul_le_mul (by omega) hnb
    omega
  subst hz1
  rcases hown.2 with ⟨rfl,rfl⟩ | ⟨g,cap,cur,rfl,hbg,hg,hnc,hcm,hcs,htake⟩
  · have h:=run_append_nil (P:=Tryz.prog) w t ty e i0 z hu hi0 hz0 ad m c news hl hx hm (by omega) (by rw [Nat.zero_add] at hbytes;omega)
    rw [hr] at h
    cases h
    exact Or.inr rfl
  · by_cases hroom:n+m≤cap
    · have h:=run_append_room (P:=Tryz.prog) w t ty e i0 hu hi0 g n cap cur hg ad m c news hl hx h1 hroom (by rw [hl,hcs,← Nat.add_mul];exact Nat.mul_le_mul_right _ hroom)
      rw [hr] at h
      cases h
      exact Or.inl rfl
    · have h:=run_append_grow (P:=Tryz.prog) w t ty e i0 z hu hi0 hz0 ⟨g,0,none⟩ n cap xs hown.1 (hown.cells (g:=g) rfl) ad m c news hl hx (by omega) (by omega) (growslice_fits (by omega) hbytes)
      rw [hr] at h
      cases h
      exact Or.inr rfl
section
variable {ops:Array Oper} {rest:List Oper} {o:Oper} {a:Act} {w:World} {Q:Exit→Act→World→Prop}
theorem wp_append_at {t e:TypeId} {z:Value} {sz nb:Nat} (hE:ElemR t e z sz nb) (hgd:o.guard=none) (s y:Operand) (ho:o.op=.call { callee:=.builtin .append,args:=#[s,y],argTypes:=#[t,t] })
    (base n:Nat) (v:Value) (xs:List Value) (hs:a.eval s=v) (hown:w.ownsRow base e sz v n xs) (ad:Addr) (m c:Nat) (news:List Value) (hl:news.length=m * sz) (hm:0 < m) (hy:a.eval y=.slice (some ad) m c)
    (hx:∀ j u,news[j]?=some u→w.cell? (ad.add j)=some u) (h1:∀ u ∈ news,u.oneCell'=true) (hb:n+m≤100000) (hbase:base≤w.heap.size)
    (h:∀ v' w',w'.ownsRow base e sz v' (n+m) (xs ++ news)→w.grownBy w' v.ownBlock→Below base w w'→(v'.ownBlock=v.ownBlock∨v'.ownBlock=some w.heap.size)→wpList Tryz.prog ops Q rest (a.put o.dst v') w'):wpList Tryz.prog ops Q (o::rest) a w:=by
  have hE2:=hE
  obtain ⟨hu,hi,hz,hp,hnb⟩:=hE
  obtain ⟨i0,hi0,hz0,hz1,hz2⟩:=info_parts hi
  obtain ⟨v',w',hrun,h2,h3,_⟩:=run_append_own (P:=Tryz.prog) w base t o.type e i0 z sz nb hu hi0 hz0 hz1 hz2 hz hp v n xs hown ad m c news hl hx h1
      (by unfold maxLen; omega) (by have:(n+m) * nb≤100001 * 64:=Nat.mul_le_mul (by omega) hnb
                                    omega) hbase
  have h4:=append_block hE2 w o.type base n v v' w' xs hown ad m c news hl hx h1 hb hm hrun
  refine wpList_plain hgd fun K hK=>?_
  unfold Oper.wp
  simp [execOp,ho,resolve,invoke,builtin,hs,hy,hrun,Result.andThen]
  exact hK _ _ (h v' w' h2 h3 ((Below.refl base w).grown h3 hbase (fun k hk=>(hown.lt k hk).1)) h4)
end
def WOwn (base:Nat) (w:World) (v:Value) (ws:List (Int × List Int)):Prop:=
  ∃ xs,w.ownsRow base 92 2 v ws.length xs∧∀ (j:Nat) (a:Int) (zs:List Int),ws[j]?=some (a,zs)→xs[j * 2]?=some (.int .i64 a)∧I64 a∧∃ db off cap,xs[j * 2+1]?=some (.slice (some ⟨db,off,none⟩) 64 cap)∧(base≤db∧db < w.heap.size)∧v.ownBlock≠some db∧Arg w (some ⟨db,off,none⟩) 64 cap zs
theorem WOwn.nil (base:Nat) (w:World):WOwn base w (.slice none 0 0) []:=⟨[],owns_nil_r _ _ _ _,fun j a zs h=>by simp at h⟩
theorem arg_grown {w w':World} {db off len cap:Nat} {zs:List Int} {row:Option Nat} (h:Arg w (some ⟨db,off,none⟩) len cap zs) (hg:w.grownBy w' row) (hne:row≠some db):Arg w' (some ⟨db,off,none⟩) len cap zs:=by
  obtain ⟨⟨h1,h2,h3,h4⟩,h5⟩:=h
  refine ⟨⟨h1,h2,h3,h4.imp_right ?_⟩,h5⟩
  rintro ⟨b,o,he,hc⟩
  simp only [Option.some.injEq,Addr.mk.injEq,and_true] at he
  obtain ⟨rfl,rfl⟩:=he
  exact ⟨db,off,rfl,fun j hj=>hg.cell (hc j hj) (fun e=>hne e.symm)⟩
theorem WOwn.snoc {base:Nat} {wr wx w4:World} {v v':Value} {ws:List (Int × List Int)} {a:Int} {zs:List Int} {xs:List Value} {db off cap:Nat} {ob:Obj}
    (h1:wr.ownsRow base 92 2 v ws.length xs) (h2:∀ (j:Nat) (a:Int) (zs:List Int),ws[j]?=some (a,zs)→xs[j * 2]?=some (.int .i64 a)∧I64 a∧∃ db off cap,xs[j * 2+1]?=some (.slice (some ⟨db,off,none⟩) 64 cap)∧(base≤db∧db < wr.heap.size)∧v.ownBlock≠some db∧Arg wr (some ⟨db,off,none⟩) 64 cap zs)
    (hb:Below wr.heap.size wr wx) (hbs:base≤wr.heap.size) (ha:I64 a) (hd:wr.heap.size≤db) (hd2:db < wx.heap.size) (hA:Arg wx (some ⟨db,off,none⟩) 64 cap zs)
    (hown:w4.ownsRow base 92 2 v' (ws.length+1) (xs ++ [.int .i64 a,.slice (some ⟨db,off,none⟩) 64 cap])) (hg:(wx.alloc ob).grownBy w4 v.ownBlock) (hv:v'.ownBlock=v.ownBlock∨v'.ownBlock=some (wx.alloc ob).heap.size):WOwn base w4 v' (ws ++ [(a,zs)]):=by
  have hxl:xs.length=ws.length * 2:=h1.1
  have hsz:wr.heap.size≤wx.heap.size:=hb.size
  have hsz4:(wx.alloc ob).heap.size≤w4.heap.size:=hg.size
  rw [World.size_alloc] at hsz4
  have hal:∀ {d o l c:Nat} {y:List Int},Arg wx (some ⟨d,o,none⟩) l c y→Arg (wx.alloc ob) (some ⟨d,o,none⟩) l c y:=fun h=>h.later ((Below.refl _ _).alloc (Nat.le_refl _) _)
  refine ⟨_,by rw [List.length_append];exact hown,fun j b ys hj=>?_⟩
  by_cases hjl:j < ws.length
  · rw [List.getElem?_append_left hjl] at hj
    obtain ⟨c1,c2,d,o,c,c3,c4,c5,c6⟩:=h2 j b ys hj
    refine ⟨by rw [List.getElem?_append_left (by omega)];exact c1,c2,d,o,c,by rw [List.getElem?_append_left (by omega)];exact c3,⟨c4.1,by omega⟩,?_,arg_grown (hal (c6.later hb)) hg c5⟩
    rcases hv with e | e
    · rw [e];exact c5
    · rw [e,World.size_alloc]
      intro h
      simp at h
      omega
  · have hj0:j=ws.length:=by
      have:=(List.getElem?_eq_some_iff.1 hj).1
      simp at this
      omega
    subst hj0
    rw [List.getElem?_append_right (Nat.le_refl _),Nat.sub_self] at hj
    simp at hj
    obtain ⟨rfl,rfl⟩:=hj
    have hvd:v.ownBlock≠some db:=fun e=>by have:=(h1.lt db e).2;omega
    refine ⟨by rw [List.getElem?_append_right (by omega),hxl,Nat.sub_self];rfl,ha,db,off,cap,by rw [List.getElem?_append_right (by omega),show ws.length * 2+1 - xs.length=1 by omega];rfl,⟨by omega,by omega⟩,?_,arg_grown (hal hA) hg hvd⟩
    rcases hv with e | e
    · rw [e];exact hvd
    · rw [e,World.size_alloc]
      intro h
      simp at h
      omega
theorem owns_keeps {w w':World} {base n sz g:Nat} {e:TypeId} {v:Value} {xs:List Value} (h:w.ownsRow base e sz v n xs) (hk:Keeps g w w') (hg:g < base):w'.ownsRow base e sz v n xs:=by
  refine ⟨h.1,h.2.imp_right ?_⟩
  rintro ⟨b,cap,cur,hv,hb,hh,rest⟩
  exact ⟨b,cap,cur,hv,hb,by rw [hk.2 b (by omega)];exact hh,rest⟩
theorem arg_keeps {w w':World} {db off len cap g:Nat} {zs:List Int} (h:Arg w (some ⟨db,off,none⟩) len cap zs) (hk:Keeps g w w') (hne:db≠g):Arg w' (some ⟨db,off,none⟩) len cap zs:=by
  obtain ⟨⟨h1,h2,h3,h4⟩,h5⟩:=h
  refine ⟨⟨h1,h2,h3,h4.imp_right ?_⟩,h5⟩
  rintro ⟨b,o,he,hc⟩
  simp only [Option.some.injEq,Addr.mk.injEq,and_true] at he
  obtain ⟨rfl,rfl⟩:=he
  exact ⟨db,off,rfl,fun j hj=>by rw [hk.cell (p:=⟨db,off+j,none⟩) hne];exact hc j hj⟩
theorem WOwn.keeps {base g:Nat} {w w':World} {v:Value} {ws:List (Int × List Int)} (h:WOwn base w v ws) (hk:Keeps g w w') (hg:g < base):WOwn base w' v ws:=by
  obtain ⟨xs,ho,hx⟩:=h
  refine ⟨xs,owns_keeps ho hk hg,fun j a zs hj=>?_⟩
  obtain ⟨c1,c2,d,o,c,c3,c4,c5,c6⟩:=hx j a zs hj
  exact ⟨c1,c2,d,o,c,c3,⟨c4.1,by rw [hk.1];exact c4.2⟩,c5,arg_keeps c6 hk (by omega)⟩
theorem WOwn.mono {base base':Nat} {w:World} {v:Value} {ws:List (Int × List Int)} (h:WOwn base' w v ws) (hb:base≤base'):WOwn base w v ws:=by
  obtain ⟨xs,ho,hx⟩:=h
  refine ⟨xs,owns_mono_r ho hb,fun j a zs hj=>?_⟩
  obtain ⟨c1,c2,d,o,c,c3,c4,c5,c6⟩:=hx j a zs hj
  exact ⟨c1,c2,d,o,c,c3,⟨by omega,c4.2⟩,c5,c6⟩
def blocksL (L:List Int) (i:Nat):List (Int × List Int):=(List.range i).flatMap fun k=>if L.getD (154+k) 0=0 then [] else [(L.getD (154+k) 0,pageB (pageL L k))]
theorem blocksL_succ (L:List Int) (i:Nat):blocksL L (i+1)=blocksL L i ++ (if L.getD (154+i) 0=0 then [] else [(L.getD (154+i) 0,pageB (pageL L i))]):=by
  unfold blocksL
  rw [List.range_succ,List.flatMap_append]
  simp
theorem blocksL_le (L:List Int):∀ i,(blocksL L i).length≤i
  | 0=>Nat.zero_le _
  | i+1=>by
    have:=blocksL_le L i
    rw [blocksL_succ,List.length_append]
    split <;> simp <;> omega
theorem uAt:Tryz.prog.underlying 230=some (.array 5 3):=Tryz.underlying230
theorem iAt {p:List Int} (h:p.length=5):(Tryz.prog.info? 230).map (·.size)=some (ints p).length:=by rw [ints_length,h];kernel_rfl
set_option maxRecDepth 100000 in
set_option maxHeartbeats 6400000 in
theorem blocks_any (g:Nat) (L:List Int) (w:World) (hC:ChartAt w g L) (hz:∀ z ∈ L,0≤z∧z≤65535) :
    Calls Tryz.prog 165 #[.pointer (some ⟨g,0,none⟩)] w fun e w'=>∃ v,e=.returned v∧WOwn w.heap.size w' v (blocksL L 5)∧Below w.heap.size w w':=by
  have HC:=Lib.hid hC
  have HZ:=Lib.hid hz
  have HLL:=Lib.hid hC.1
  have HAR:Hid (w.rangeAt g 154 (ints ((L.drop 154).take 5))):=Lib.hid (range_part hC.2 154 5)
  have hl5:((L.drop 154).take 5).length=5:=by rw [List.length_take,List.length_drop,hC.1];decide
  have HI5:=Lib.hid (iAt hl5)
  have HIDX:Hid (∀ (i:Nat),i < 5→∀ W,(Instr.index 230 (.agg (ints ((L.drop 154).take 5)).toArray) (.int .i64 (i:Int))).run Tryz.prog W=.ok (.int .i64 (L.getD (154+i) 0)) W):=Lib.hid (fun i hi W=>by
    have h:=idx_ints uAt hl5 hi W
    rw [take_getD' _ _ _ hi,drop_getD'] at h
    exact h)
  generalize (L.drop 154).take 5=A5 at *
  clear hC hz hl5
  go_enter Tryz.func165,Tryz.ntmps165
  go_wp2_with (refine wpList_load_mid rfl 230 (.tmp 8) rfl g 154 rfl (ints A5) _ HAR.out uAt rfl HI5.out ?_)
  go_loopw [3,10] (fun sv iv wr=>∃ i:Nat,iv=.int .i64 (i:Int)∧i≤5∧Hid (WOwn w.heap.size wr sv (blocksL L i))∧Hid (Below w.heap.size w wr)) (fun _ iv _=>5 - (intOf iv).toNat)
  case atStart=>exact ⟨0,rfl,Nat.zero_le _,Lib.hid (WOwn.nil _ _),Lib.hid (Below.refl _ _)⟩
  case round=>
    obtain ⟨i,rfl,hi,HW,HB⟩:=hrel
    by_cases hlt:i < 5
    · have i1:(i:Int) < 5:=by omega
      have i2:i < 5:=hlt
      have HIX:=Lib.hid (HIDX.out i hlt)
      have HS:=Lib.hid (blocksL_succ L i)
      have hx:0≤L.getD (154+i) 0∧L.getD (154+i) 0≤65535:=HZ.out _ (by rw [List.getD_eq_getElem?_getD,List.getElem?_eq_getElem (by rw [HLL.out];omega)];exact List.getElem_mem _)
      have hpl:(pageL L i).length=30:=pageL_length HLL.out hlt
      have cW:=fun W=>trWrite_any (pageL L i) W hpl (fun x hx=>HZ.out x (List.mem_of_mem_drop (List.mem_of_mem_take hx)))
      have HPR:Hid (wr.rangeAt g (4+i * 30) (ints (pageL L i))):=Lib.hid ((HC.out.later HB.out).page i)
      have HPI:=Lib.hid (iPage hpl)
      unfold pageV at cW
      generalize L.getD (154+i) 0=x at *
      by_cases h0:x=0
      · subst h0
        have HS2:Hid (blocksL L (i+1)=blocksL L i):=Lib.hid (by rw [HS.out,if_pos rfl,List.append_nil])
        clear cW HS hx hpl
        go_wp2_with (refine wp_idx rfl (.tmp 9) (.tmp 10) 230 rfl _ HIX.out ?_)
        go_roundw
        case rel=>exact ⟨i+1,by go_num,by omega,Lib.hid (by rw [HS2.out];exact HW.out),HB⟩
        case measure=>simp [intOf];omega
      · have HS2:Hid (blocksL L (i+1)=blocksL L i ++ [(x,pageB (pageL L i))]):=Lib.hid (by rw [HS.out,if_neg h0])
        have hle:=blocksL_le L i
        have HX:Hid (I64 x):=Lib.hid ⟨by omega,by omega⟩
        obtain ⟨xs,ho,hxs⟩:=HW.out
        obtain ⟨ra,rc,rfl⟩:=owns_shape_r ho
        have HO:=Lib.hid ho
        have HXS:=Lib.hid hxs
        have HLE:=Lib.hid hle
        have b0:(x == 0)=false:=by simpa using h0
        have HP64:Hid ((pageB (pageL L i)).length=64):=Lib.hid (page_sealed (by omega)).1
        obtain ⟨n,hn⟩:∃ n,(blocksL L i).length=n:=⟨_,rfl⟩
        have HN:=Lib.hid hn
        rw [hn] at hle
        rw [hn] at HO HXS
        rw [hn]
        clear hx hpl ho hxs HS h0 hn
        go_wp2_with (first
          | (refine wp_idx rfl (.tmp 9) (.tmp 10) 230 rfl _ HIX.out ?_)
          | (refine wpList_load_mid rfl 223 (.tmp 22) rfl g (4+i * 30) rfl (ints (pageL L i)) _ HPR.out uPage rfl HPI.out ?_)
          | (go_at_call 209;refine (cW _).mono ?_;rintro e w5 ⟨v5,rfl,hf,hb⟩;obtain ⟨da,dc,rfl,hA5,hf5⟩:=hf;obtain ⟨db,doff,rfl,hdb,_⟩:=hf5.resolve_left (by intro h;have:=congrArg List.length h;rw [HP64.out] at this;simp at this);rw [HP64.out] at hA5;rw [HP64.out];have HA5:=Lib.hid hA5;have HDB:=Lib.hid hdb;have HB5:=Lib.hid hb;clear hA5 hf5 hdb hb)
          | (at_builtin;refine wp_append_at elemW rfl (.tmp 16) (.tmp 26) rfl w.heap.size n _ xs rfl ((owns_later_r HO.out HB5.out).alloc _) ⟨w5.heap.size,0,none⟩ 1 1 [.int .i64 x,.slice (some ⟨db,doff,none⟩) 64 dc] rfl (by decide) rfl (news_r w5 [.int .i64 x,.slice (some ⟨db,doff,none⟩) 64 dc] _) (by intro q hq;simp only [List.mem_cons,List.mem_nil_iff,or_false] at hq;rcases hq with rfl | rfl <;> rfl) (by omega) (by have h1:=HB.out.size;have h2:=HB5.out.size;simp;omega) ?_;intro v6 w6 hown6 hg6 hb6 hv6;have HO6:=Lib.hid hown6;have HG6:=Lib.hid hg6;have HB6:=Lib.hid hb6;have HV6:=Lib.hid hv6;clear hown6 hg6 hb6 hv6))
        have HLT:Hid (db < w5.heap.size):=Lib.hid (by
          obtain ⟨b',o',he,hc⟩:=HA5.out.1.2.2.2.resolve_left (by decide)
          simp only [Option.some.injEq,Addr.mk.injEq,and_true] at he
          obtain ⟨rfl,rfl⟩:=he
          exact World.block_lt_of_cell? _ _ (hc 0 (by decide)))
        go_roundw
        case rel=>exact ⟨i+1,by go_num,by omega,Lib.hid (by
          rw [HS2.out]
          exact WOwn.snoc (v:=.slice ra n rc) (by rw [HN.out];exact HO.out) HXS.out HB5.out HB.out.size HX.out HDB.out HLT.out HA5.out (by rw [HN.out];exact HO6.out) HG6.out HV6.out),Lib.hid (((HB.out.trans (HB5.out.mono HB.out.size)).alloc (by have h1:=HB.out.size;have h2:=HB5.out.size;omega) _).trans HB6.out)⟩
        case measure=>simp [intOf];omega
    · obtain rfl:i=5:=by omega
      go_wp2_with fail
      go_ret
      exact ⟨_,rfl,HW.out,HB.out⟩
end Go.Proofs.YtcefmpnijjcekaaGreatDoor
namespace Go.Proofs.YtcefmpnijjcekaaGreatDoor
open Go.RowKit
set_option maxHeartbeats 400000 in
theorem fSealed_any (ao:Option Addr) (len cap:Nat) (zs:List Int) (w:World) (hA:Arg w ao len cap zs) :
    Calls Tryz.prog 47 #[.slice ao len cap] w (Says w.heap.size w (sealedB zs)):=by
  have hl:=hA.1.1
  by_cases h64:len=64
  · subst h64
    have hz:=hA.1.2.2.1
    have HV:Hid (((str (zs.drop 60)).toList == (str (leB (sumS (zs.take 60)) 4)).toList)=sealedB zs):=Lib.hid (by
      rw [str_eq (fun z h=>hz z (List.mem_of_mem_drop h)) (leB_bytes _ _)]
      unfold sealedB
      rw [sealOf_take hl,Bool.eq_iff_iff,decide_eq_true_iff,decide_eq_true_iff]
      have e:zs.take 60 ++ zs.drop 60=zs:=List.take_append_drop 60 zs
      constructor
      · intro h
        rw [← h]
        exact ⟨hl,e⟩
      · intro h
        have h2:=h.2
        conv at h2=>rhs;rw [← e]
        exact (List.append_cancel_left h2).symm)
    have cS:=fSum_any ao cap zs w.drew (show Arg w.drew ao 64 cap zs from hA)
    obtain ⟨hB,_,hcap,_⟩:=hA
    obtain ⟨b,off,rfl,_⟩:=hB.2.2.2.resolve_left (by decide)
    have hD:Bts w.drew (some ⟨b,off+60,none⟩) 4 (zs.drop 60):=bts_drop (k:=60) (show Bts w.drew (some ⟨b,off,none⟩) 64 zs from hB) (by decide)
    have HD:=Lib.hid hD
    have s0:=str_bytes (cap:=cap - 60) hD
    clear hB hD hl hz
    have hcne:¬ cap=60:=by omega
    have i2:(60:Int)≤(cap:Int):=by omega
    go_enter Tryz.func47,Tryz.ntmps47
    go_wp2_with fail
    go_region_with (first | (go_at_call 90;refine cS.mono ?_;rintro e w5 ⟨rfl,b5⟩;have B5:=Lib.hid b5;have s2:=str_bytes (cap:=cap - 60) (HD.out.later b5);clear b5))
    all_goals (go_wp2_with fail;go_ret;exact ⟨by rw [← HV.out];rfl,(Below.refl _ _).drew.trans B5.out⟩)
  · have hv:sealedB zs=false:=by
      unfold sealedB
      rw [hl]
      simp [h64]
    have hne:((len:Int) == 64)=false:=by simp;omega
    rw [hv]
    go_enter Tryz.func47,Tryz.ntmps47
    go_wp2_with fail
    go_quiet (fail)
    go_wp2_with fail
    go_ret
    exact ⟨rfl,below_drewN (Below.refl _ _) _⟩
end Go.Proofs.YtcefmpnijjcekaaGreatDoor
namespace Go.Proofs.YtcefmpnijjcekaaGreatDoor
open Go.RowKit
theorem find_index {ws:List (Int × List Int)} {q:Int} {zs:List Int} (h:findW ws q=some zs):∃ k,ws[k]?=some (q,zs)∧∀ (j:Nat) (a:Int) (ys:List Int),j < k→ws[j]?=some (a,ys)→a≠q:=by
  unfold findW at h
  induction ws with
  | nil=>simp at h
  | cons w r ih=>
    rw [List.find?_cons] at h
    by_cases hw:w.1=q
    · rw [decide_eq_true hw] at h
      simp at h
      refine ⟨0,?_,fun j a ys hj=>absurd hj (Nat.not_lt_zero j)⟩
      show some w=_
      rw [← hw,← h]
    · rw [decide_eq_false hw] at h
      obtain ⟨k,h1,h2⟩:=ih h
      refine ⟨k+1,h1,fun j a ys hj hjs=>?_⟩
      cases j with
      | zero=>
        have:w=(a,ys):=by simpa using hjs
        rw [this] at hw
        exact hw
      | succ j=>exact h2 j a ys (by omega) (by simpa using hjs)
def wV (a:Int) (ad:Option Addr) (l c:Nat):Value:=.agg #[.int .i64 a,.slice ad l c]
structure Caps (w:World) (g B1 B2 i:Nat) (q:Int):Prop where
  c1:w.cell? ⟨B1,0,none⟩=some (.pointer (some ⟨g,0,none⟩))
  c2:w.cell? ⟨B2,0,none⟩=some (.int .i64 (i:Int))
  c3:w.cell? ⟨g,154+i,none⟩=some (.int .i64 q)
theorem Caps.later {w wx:World} {g B1 B2 i:Nat} {q:Int} (h:Caps w g B1 B2 i q) (hb:Below w.heap.size w wx):Caps wx g B1 B2 i q:=⟨cell_later hb h.c1,cell_later hb h.c2,cell_later hb h.c3⟩
set_option maxRecDepth 100000 in
set_option maxHeartbeats 1600000 in
theorem fetch1_any (a:Int) (ad:Option Addr) (l c:Nat) {g B1 B2 i:Nat} {q:Int} (w:World) (hC:Caps w g B1 B2 i q) (hi:i < 5) :
    Calls Tryz.prog 238 #[wV a ad l c,.pointer (some ⟨B1,0,none⟩),.pointer (some ⟨B2,0,none⟩)] w fun e w'=>e=.returned (.bool (decide (a=q)))∧Below w.heap.size w w':=by
  have HC:Hid (∀ o,Caps (w.alloc o) g B1 B2 i q):=Lib.hid (fun o=>hC.later ((Below.refl _ _).alloc (Nat.le_refl _) _))
  have c1:=fun o=>(HC.out o).c1
  have c2:=fun o=>(HC.out o).c2
  have c3:=fun o=>(HC.out o).c3
  have HB:Hid (∀ o,Below w.heap.size w (w.alloc o)):=Lib.hid (fun o=>(Below.refl _ _).alloc (Nat.le_refl _) _)
  have i1:(i:Int) < 5:=by omega
  have i0:(0:Int)≤(i:Int):=by omega
  have e1:(a == q)=decide (a=q):=by
    by_cases h:a=q
    · rw [decide_eq_true h];simpa using h
    · rw [decide_eq_false h];simpa using h
  have HE:=Lib.hid e1
  clear hC e1
  unfold wV
  go_enter Tryz.func238,Tryz.ntmps238
  go_wp2_with fail
  go_quiet (fail)
  go_wp2_with fail
  go_ret
  exact ⟨by rw [← HE.out];rfl,below_drewN (HB.out _) _⟩
set_option maxRecDepth 100000 in
set_option maxHeartbeats 1600000 in
theorem indexW_any {w:World} {ao:Option Addr} {m cap g B1 B2 i k:Nat} {q:Int} {ws:List (Int × List Int)} {zs:List Int} (hL:WIs w ao m ws) (hC:Caps w g B1 B2 i q) (hi5:i < 5) (hk:ws[k]?=some (q,zs)) (hk2:∀ (j:Nat) (a:Int) (ys:List Int),j < k→ws[j]?=some (a,ys)→a≠q) :
    Calls Tryz.prog 237 #[.slice ao m cap,.func (.func 238) #[] #[.pointer (some ⟨B1,0,none⟩),.pointer (some ⟨B2,0,none⟩)]] w fun e w'=>e=.returned (.int .i64 (k:Int))∧Below w.heap.size w w':=by
  have HL:=Lib.hid hL
  have HC:=Lib.hid hC
  have HK:=Lib.hid hk
  have HK2:=Lib.hid hk2
  have hm:=hL.2.1
  have hkm:k < m:=by
    have:=(List.getElem?_eq_some_iff.1 hk).1
    have:=hL.1
    omega
  clear hL hC hk hk2
  go_enter Tryz.func237,Tryz.ntmps237
  go_wp2_with fail
  go_loopw [8] (fun iv wr=>∃ n:Nat,iv=.int .i64 (n:Int)∧n≤k∧Hid (Below w.heap.size w wr)) (fun iv _=>m - (intOf iv).toNat)
  case atStart=>exact ⟨0,rfl,Nat.zero_le _,Lib.hid (Below.refl _ _)⟩
  case round=>
    obtain ⟨n,rfl,hn,HB⟩:=hrel
    have hlt:n < m:=by omega
    obtain ⟨b,off,x,ys,ad,l,c,rfl,hp,d1,_,d2,_⟩:=(HL.out.later HB.out).at hlt
    have i1:(n:Int) < (m:Int):=by omega
    have cF:=fetch1_any x ad l c wr (HC.out.later HB.out) hi5
    unfold wV at cF
    by_cases he:n=k
    · subst he
      have hxq:x=q:=by
        have h:=HK.out
        rw [hp] at h
        simp at h
        exact h.1
      rw [decide_eq_true hxq] at cF
      clear hp hxq
      go_wp2_with (go_at_call 238;refine cF.mono ?_;rintro e w3 ⟨rfl,hb3⟩;have HB3:=Lib.hid hb3;clear hb3)
      go_ret
      exact ⟨rfl,HB.out.trans (HB3.out.mono HB.out.size)⟩
    · have hxq:x≠q:=HK2.out n x ys (by omega) hp
      rw [decide_eq_false hxq] at cF
      clear hp hxq
      go_wp2_with (go_at_call 238;refine cF.mono ?_;rintro e w3 ⟨rfl,hb3⟩;have HB3:=Lib.hid hb3;clear hb3)
      go_roundw
      case rel=>exact ⟨n+1,by go_num,by omega,Lib.hid (HB.out.trans (HB3.out.mono HB.out.size))⟩
      case measure=>simp [intOf];omega
theorem fetch0_any {w:World} {g i:Nat} {ao:Option Addr} {m cap:Nat} (hc:w.cell? ⟨g,154+i,none⟩=some (.int .i64 0)) (hi:i < 5) :
    Calls Tryz.prog 211 #[.pointer (some ⟨g,0,none⟩),.int .i64 (i:Int),.slice ao m cap] w fun e w'=>e=.returned (.bool true)∧Below w.heap.size w w':=by
  have HB:Hid (∀ o p,Below w.heap.size w ((w.alloc o).alloc p)):=Lib.hid (fun o p=>((Below.refl _ _).alloc (Nat.le_refl _) _).alloc (by simp) _)
  have hc2:∀ o p,((w.alloc o).alloc p).cell? ⟨g,154+i,none⟩=some (.int .i64 0):=fun o p=>cell_later (HB.out o p) hc
  have i1:(i:Int) < 5:=by omega
  have i0:(0:Int)≤(i:Int):=by omega
  clear hc
  go_enter Tryz.func211,Tryz.ntmps211
  go_wp2_with fail
  go_quiet (fail)
  go_wp2_with fail
  go_ret
  exact ⟨rfl,below_drewN (HB.out _ _) _⟩
end Go.Proofs.YtcefmpnijjcekaaGreatDoor
namespace Go.Proofs.YtcefmpnijjcekaaGreatDoor
open Go.RowKit
theorem page_parts {zs pg:List Int} (h:pageOf zs=some pg):zs.length=64∧sealedB zs=true∧words zs=pg∧pg.any nzB=true∧apartL pg=true:=by
  unfold pageOf at h
  split at h
  · next hc=>
    cases h
    simp only [Bool.and_eq_true,decide_eq_true_eq] at hc
    exact ⟨hc.1.1,decide_eq_true hc.1,rfl,hc.2.1,hc.2.2⟩
  · cases h
theorem there_later' {w wx:World} {b o n:Nat} (hb:Below w.heap.size w wx) (h:w.there b o n) (hlt:b < w.heap.size):wx.there b o n:=fun j hj=>by
  obtain ⟨h1,h2⟩:=h j hj
  obtain ⟨u,hu⟩:=Option.isSome_iff_exists.1 h1
  exact ⟨by rw [cell_later hb hu];rfl,by rw [hb.frozen (p:=⟨b,o+j,none⟩) hlt];exact h2⟩
theorem caps_made {w:World} {g i:Nat} {q:Int} (hc:w.cell? ⟨g,154+i,none⟩=some (.int .i64 q)) (T1 T2:TypeId):Caps ((w.alloc (.cells #[.pointer (some ⟨g,0,none⟩)] T1)).alloc (.cells #[.int .i64 (i:Int)] T2)) g w.heap.size (w.heap.size+1) i q:=by
  have hb:Below w.heap.size w ((w.alloc (.cells #[.pointer (some ⟨g,0,none⟩)] T1)).alloc (.cells #[.int .i64 (i:Int)] T2)):=((Below.refl _ _).alloc (Nat.le_refl _) _).alloc (by simp) _
  refine ⟨?_,?_,cell_later hb hc⟩
  · exact cell_later ((Below.refl _ _).alloc (Nat.le_refl _) _) (one_cell_new w _ T1)
  · have e:(w.alloc (.cells #[.pointer (some ⟨g,0,none⟩)] T1)).heap.size=w.heap.size+1:=World.size_alloc _ _
    have h2:=one_cell_new (w.alloc (.cells #[.pointer (some ⟨g,0,none⟩)] T1)) (.int .i64 (i:Int)) T2
    rw [e] at h2
    exact h2
set_option maxRecDepth 100000 in
set_option maxHeartbeats 6400000 in
theorem fetchP_any {w0 w:World} {g i:Nat} {L:List Int} {ao:Option Addr} {m cap:Nat} {ws:List (Int × List Int)} {q:Int} {zs pg:List Int} (hO:OwnV w0.heap.size w0 g (ints L) w) (hL:L.length=159) (hW:WIs w0 ao m ws) (hi:i < 5) (hq:L.getD (154+i) 0=q) (h0:q≠0) (hf:findW ws q=some zs) (hp:pageOf zs=some pg) :
    Calls Tryz.prog 211 #[.pointer (some ⟨g,0,none⟩),.int .i64 (i:Int),.slice ao m cap] w fun e w'=>e=.returned (.bool true)∧OwnV w0.heap.size w0 g (ints (lay L (4+i * 30) pg)) w':=by
  obtain ⟨k,hk1,hk2⟩:=find_index hf
  obtain ⟨p1,p2,p3,p4,_⟩:=page_parts hp
  have hmk:k < m:=by
    have:=(List.getElem?_eq_some_iff.1 hk1).1
    have:=hW.1
    omega
  obtain ⟨b,off,a,ys,ad,l,c,rfl,hks,_,_,d2,hA⟩:=hW.at hmk
  have hys:ys=zs:=by
    rw [hk1] at hks
    simp at hks
    exact hks.2.symm
  subst hys
  have hl64:l=64:=by rw [← hA.1.1,p1]
  subst hl64
  have hne:ints L≠[]:=by intro h;have:=congrArg List.length h;rw [ints_length,hL] at this;simp at this
  have hcq:w.cell? ⟨g,154+i,none⟩=some (.int .i64 q):=hO.1 _ _ (ints_get (by rw [← hq,List.getD_eq_getElem?_getD,List.getElem?_eq_getElem (by omega)];rfl))
  have hglt:g < w.heap.size:=World.block_lt_of_cell? _ _ hcq
  have HB:Hid (∀ o p,Below w.heap.size w ((w.alloc o).alloc p)):=Lib.hid (fun o p=>((Below.refl _ _).alloc (Nat.le_refl _) _).alloc (by simp) _)
  have hc2:∀ o p,((w.alloc o).alloc p).cell? ⟨g,154+i,none⟩=some (.int .i64 q):=fun o p=>cell_later (HB.out o p) hcq
  have i1:(i:Int) < 5:=by omega
  have i0:(0:Int)≤(i:Int):=by omega
  have b0:(q == 0)=false:=by simpa using h0
  have HM:Hid (∃ W,W=((w.alloc (.cells #[.pointer (some ⟨g,0,none⟩)] 220)).alloc (.cells #[.int .i64 (i:Int)] 3))):=Lib.hid ⟨_,rfl⟩
  have HIX:Hid (∀ W,Below w0.heap.size w0 W→Caps W g w.heap.size (w.heap.size+1) i q→Calls Tryz.prog 237 #[.slice (some ⟨b,off,none⟩) m cap,.func (.func 238) #[] #[.pointer (some ⟨w.heap.size,0,none⟩),.pointer (some ⟨w.heap.size+1,0,none⟩)]] W fun e w'=>e=.returned (.int .i64 (k:Int))∧Below W.heap.size W w'):=Lib.hid (fun W hB hC=>indexW_any (hW.later hB) hC hi hk1 hk2)
  have HSE:Hid (∀ W,Below w0.heap.size w0 W→Calls Tryz.prog 47 #[.slice ad 64 c] W (Says W.heap.size W true)):=Lib.hid (fun W hB=>by
    have h:=fSealed_any ad 64 c ys W (hA.later hB)
    rw [p2] at h
    exact h)
  have HRD:Hid (∀ W,Below w0.heap.size w0 W→Calls Tryz.prog 239 #[.slice ad (64:Nat) c] W fun e w'=>e=.returned (pageV pg)∧Below W.heap.size W w'):=Lib.hid (fun W hB=>by
    have h:=trRead_any ad c ys W (hA.later hB)
    rw [p3] at h
    exact h)
  have hl30:pg.length=30:=by rw [← p3];exact words_length _
  have HUS:Hid (∀ W,Calls Tryz.prog 204 #[pageV pg] W fun e w'=>e=.returned (.bool true)∧Below W.heap.size W w'):=Lib.hid (fun W=>by
    have h:=used_any pg W hl30
    rw [p4] at h
    exact h)
  have HCQ:=Lib.hid hcq
  have HBW:Hid (b < w0.heap.size):=Lib.hid (World.block_lt_of_cell? _ _ d2)
  have HGE:Hid (w0.heap.size≤g):=Lib.hid hO.2.2.1
  have HO:=Lib.hid hO
  have HD2:=Lib.hid d2
  have HLL:=Lib.hid hL
  have HL30:=Lib.hid hl30
  have k1:(k:Int) < (m:Int):=by omega
  have k0:¬ ((k:Int) < 0):=by omega
  have k2:(0:Int)≤(k:Int):=by omega
  clear hO hL hW hq h0 hf hp hk1 hk2 p1 p2 p3 p4 hks d2 hA hne hcq
  unfold pageV at HRD HUS
  go_enter Tryz.func211,Tryz.ntmps211
  go_wp2_with fail
  go_quiet (fail)
  obtain ⟨W1,hW1⟩:∃ W1,W1=((w.alloc (.cells #[.pointer (some ⟨g,0,none⟩)] 220)).alloc (.cells #[.int .i64 (i:Int)] 3)).drewN nq:=⟨_,rfl⟩
  have HB1:Hid (Below w.heap.size w W1):=Lib.hid (by rw [hW1];exact below_drewN (HB.out _ _) _)
  have HCP:Hid (Caps W1 g w.heap.size (w.heap.size+1) i q):=Lib.hid (by
    rw [hW1]
    have h:=caps_made HCQ.out 220 3
    exact ⟨h.c1,h.c2,h.c3⟩)
  rw [← hW1]
  clear hW1 hc2
  have HB01:Hid (Below w0.heap.size w0 W1):=Lib.hid (HO.out.2.2.2.trans (HB1.out.mono HO.out.2.2.2.size))
  go_wp2_with (first
    | (go_at_call 237;refine (HIX.out _ HB01.out HCP.out).mono ?_;rintro e w2 ⟨rfl,hb⟩;have HB2:=Lib.hid hb;have HB02:=Lib.hid (HB01.out.trans (hb.mono HB01.out.size));have d3:=cell_later HB02.out HD2.out;clear hb)
    | (go_at_call 47;refine (HSE.out _ HB02.out).mono ?_;rintro e w3 ⟨rfl,hb⟩;have HB3:=Lib.hid hb;have HB03:=Lib.hid (HB02.out.trans (hb.mono HB02.out.size));clear hb))
  have HB23:=Lib.hid (HB1.out.trans ((HB2.out.trans (HB3.out.mono HB2.out.size)).mono HB1.out.size))
  have HB13:=Lib.hid (HB2.out.trans (HB3.out.mono HB2.out.size))
  have HO3:Hid (OwnV w0.heap.size w0 g (ints L) w3):=Lib.hid (HO.out.later HB23.out (by intro h;have:=congrArg List.length h;rw [ints_length,HLL.out] at this;simp at this))
  have HTH:Hid (∀ W,Below w3.heap.size w3 W→W.there g (4+i * 30) 30):=Lib.hid (fun W hW=>there_later' hW (fun j hj=>⟨by
      rw [HO3.out.1 (4+i * 30+j) (.int .i64 (L.getD (4+i * 30+j) 0)) (ints_get (by rw [List.getD_eq_getElem?_getD,List.getElem?_eq_getElem (by rw [HLL.out];omega)];rfl))];rfl,HO3.out.2.1 _⟩) (Nat.lt_of_lt_of_le hglt HB23.out.size))
  have HS3:Hid (∀ W,Below w3.heap.size w3 W→W.cell? ⟨w.heap.size,0,none⟩=some (.pointer (some ⟨g,0,none⟩))∧W.cell? ⟨w.heap.size+1,0,none⟩=some (.int .i64 (i:Int))∧W.cell? ⟨b,off+k * 2+1,none⟩=some (.slice ad 64 c)):=Lib.hid (fun W hW=>by
    have h:=HCP.out.later (HB13.out.trans (hW.mono HB13.out.size))
    exact ⟨h.c1,h.c2,cell_later (HB03.out.trans (hW.mono HB03.out.size)) HD2.out⟩)
  have iP:=iPage HL30.out
  have hN30:(ints pg).length=30:=by rw [ints_length,HL30.out]
  have hOne:=ints_one pg
  have HK:Hid (∀ W,Below w3.heap.size w3 W→W.cell? ⟨w.heap.size,0,none⟩=some (.pointer (some ⟨g,0,none⟩))∧W.cell? ⟨w.heap.size+1,0,none⟩=some (.int .i64 (i:Int))∧W.cell? ⟨b,off+k * 2+1,none⟩=some (.slice ad 64 c)∧W.there g (4+i * 30) 30):=Lib.hid (fun W hW=>by
    obtain ⟨s1,s2,s3⟩:=HS3.out W hW
    exact ⟨s1,s2,s3,HTH.out W hW⟩)
  have HKS:Hid (∀ W vs,Below w3.heap.size w3 W→(W.setCells g (4+i * 30) vs).cell? ⟨w.heap.size,0,none⟩=some (.pointer (some ⟨g,0,none⟩))∧(W.setCells g (4+i * 30) vs).cell? ⟨w.heap.size+1,0,none⟩=some (.int .i64 (i:Int))∧(W.setCells g (4+i * 30) vs).cell? ⟨b,off+k * 2+1,none⟩=some (.slice ad 64 c)∧(W.setCells g (4+i * 30) vs).there g (4+i * 30) 30):=Lib.hid (fun W vs hW=>by
    obtain ⟨s1,s2,s3,s4⟩:=HK.out W hW
    have kp:=Keeps.sets g vs (4+i * 30) W
    have h1:=HBW.out
    have h2:=HGE.out
    refine ⟨?_,?_,?_,World.there_setCells s4 _ _ _⟩
    · rw [kp.cell (p:=⟨w.heap.size,0,none⟩) (by show w.heap.size≠g;omega)];exact s1
    · rw [kp.cell (p:=⟨w.heap.size+1,0,none⟩) (by show w.heap.size+1≠g;omega)];exact s2
    · rw [kp.cell (p:=⟨b,off+k * 2+1,none⟩) (by show b≠g;omega)];exact s3)
  go_region_held3 (fun W=>W.cell? ⟨w.heap.size,0,none⟩=some (.pointer (some ⟨g,0,none⟩))∧W.cell? ⟨w.heap.size+1,0,none⟩=some (.int .i64 (i:Int))∧W.cell? ⟨b,off+k * 2+1,none⟩=some (.slice ad 64 c)∧W.there g (4+i * 30) 30) (first | exact HK.out _ ((Below.refl _ _).drew) | exact HK.out _ ((Below.refl _ _).drew.trans HB5.out) | exact HKS.out _ _ ((Below.refl _ _).drew.trans HB5.out)) ((go_at_call 239;refine (HRD.out _ HB03.out.drew).mono ?_;rintro e w5 ⟨rfl,hb⟩;have HB5:Hid (Below w3.drew.heap.size w3.drew w5):=Lib.hid hb;clear hb))
  have HB35:=Lib.hid ((Below.refl w3.heap.size w3).drew.trans HB5.out)
  have HO6:Hid (OwnV w0.heap.size w0 g (ints (lay L (4+i * 30) pg)) (w5.setCells g (4+i * 30) (ints pg))):=Lib.hid ((HO3.out.later HB35.out (by intro h;have:=congrArg List.length h;rw [ints_length,HLL.out] at this;simp at this)).fillI pg L (4+i * 30) w5 (by rw [HLL.out,HL30.out];omega))
  have HS6:=Lib.hid (HKS.out w5 (ints pg) HB35.out)
  have HR6:Hid ((w5.setCells g (4+i * 30) (ints pg)).rangeAt g (4+i * 30) (ints pg)):=Lib.hid (World.rangeAt_setCells_same _ _ _ _ (by rw [hN30];exact HTH.out _ HB35.out))
  obtain ⟨W6,hW6⟩:∃ W6,W6=w5.setCells g (4+i * 30) (ints pg):=⟨_,rfl⟩
  rw [← hW6] at HO6 HS6 HR6 ⊢
  clear hW6
  have hu:=uPage
  have HK6:Hid (∀ W,Below W6.heap.size W6 W→W.cell? ⟨w.heap.size,0,none⟩=some (.pointer (some ⟨g,0,none⟩))∧W.cell? ⟨w.heap.size+1,0,none⟩=some (.int .i64 (i:Int))∧W.rangeAt g (4+i * 30) (ints pg)):=Lib.hid (fun W hW=>⟨cell_later hW HS6.out.1,cell_later hW HS6.out.2.1,fun j v hj=>cell_later hW (HR6.out j v hj)⟩)
  go_wp2_with fail
  go_region_held3 (fun W=>W.cell? ⟨w.heap.size,0,none⟩=some (.pointer (some ⟨g,0,none⟩))∧W.cell? ⟨w.heap.size+1,0,none⟩=some (.int .i64 (i:Int))∧W.rangeAt g (4+i * 30) (ints pg)) (first | exact HK6.out _ ((Below.refl _ _).drew) | exact HK6.out _ ((Below.refl _ _).drew.trans HB7.out)) ((go_at_call 204;refine (HUS.out _).mono ?_;rintro e w7 ⟨rfl,hb⟩;have HB7:Hid (Below W6.drew.heap.size W6.drew w7):=Lib.hid hb;clear hb))
  go_wp2_with fail
  go_ret
  exact ⟨rfl,HO6.out.later ((Below.refl _ _).drew.trans HB7.out) (by intro h;have:=congrArg List.length h;rw [ints_length,lay_length,HLL.out] at this;simp at this)⟩
end Go.Proofs.YtcefmpnijjcekaaGreatDoor
namespace Go.Proofs.YtcefmpnijjcekaaGreatDoor
open Go.RowKit
set_option maxRecDepth 100000 in
set_option maxHeartbeats 1600000 in
theorem Index_any (ao:Option Addr) (len cap:Nat) (zs:List Int) (x:Int) (w:World) (hA:IArg w ao len cap zs):Calls Tryz.prog 208 #[.slice ao len cap,.int .i64 x] w fun e w'=>∃ r:Int,e=.returned (.int .i64 r)∧decide (0≤r)=decide (x ∈ zs)∧w=w':=by
  have HA:=Lib.hid hA
  have HN:=Lib.hid hA.len
  have hb:=hA.big
  clear hA
  go_enter Tryz.func208,Tryz.ntmps208
  go_wp2_with fail
  go_loopw [8] (fun iv wr=>∃ i:Nat,iv=.int .i64 (i:Int)∧i≤len∧Hid (w=wr)∧Hid (x ∉ zs.take i)) (fun iv _=>len - (intOf iv).toNat)
  case atStart=>exact ⟨0,rfl,Nat.zero_le _,Lib.hid rfl,Lib.hid (by simp)⟩
  case round=>
    obtain ⟨i,rfl,hi,HW,HQ⟩:=hrel
    by_cases hlt:i < len
    · obtain ⟨b,off,y,rfl,hy,hc,_⟩:=HA.out.at hlt
      have hc:wr.cell? ⟨b,off+i,none⟩=some (.int .i64 y):=by rw [← HW.out];exact hc
      have i1:(i:Int) < (len:Int):=by omega
      have HY:=Lib.hid hy
      clear hy
      by_cases he:x=y
      · have HM:Hid (x ∈ zs):=Lib.hid (by rw [he];exact List.mem_of_getElem? HY.out)
        have b1:(x == y)=true:=by simpa using he
        clear he
        go_wp2_with fail
        go_ret
        exact ⟨(i:Int),rfl,by rw [decide_eq_true HM.out];exact decide_eq_true (by omega),HW.out⟩
      · have HM:Hid (x ∉ zs.take (i+1)):=Lib.hid (by
          rw [List.take_add_one,HY.out]
          intro h
          rcases List.mem_append.1 h with h | h
          · exact HQ.out h
          · exact he (by simpa using h))
        have b1:(x == y)=false:=by simpa using he
        clear he
        go_wp2_with fail
        go_roundw
        case rel=>exact ⟨i+1,by go_num,by omega,HW,HM⟩
        case measure=>simp [intOf];omega
    · obtain rfl:i=len:=by omega
      have HM:Hid (x ∉ zs):=Lib.hid (by have:=HQ.out;rwa [← HN.out,List.take_length] at this)
      go_wp2_with fail
      go_ret
      exact ⟨-1,rfl,by rw [decide_eq_false HM.out];rfl,HW.out⟩
set_option maxHeartbeats 800000 in
theorem Contains_any (ao:Option Addr) (len cap:Nat) (zs:List Int) (x:Int) (w:World) (hA:IArg w ao len cap zs):Calls Tryz.prog 163 #[.slice ao len cap,.int .i64 x] w fun e w'=>e=.returned (.bool (decide (x ∈ zs)))∧w=w':=by
  have c:=Index_any ao len cap zs x w hA
  clear hA
  go_enter Tryz.func163,Tryz.ntmps163
  go_wp2_with (go_at_call 208;refine c.mono ?_;rintro e w2 ⟨r,rfl,hr,rfl⟩;have HR:=Lib.hid hr;clear hr)
  go_ret
  exact ⟨by rw [← HR.out];rfl,rfl⟩
end Go.Proofs.YtcefmpnijjcekaaGreatDoor
