/- Proved here: how the landed tree lays pointers into a chart (split), takes them out again (joined), and takes zeros at the end away (trimmed). The conditions stand at each theorem. Proved here: what the landed tree says of lists of numbers (apart): each is 0 or a data block, and none of these is there twice. The conditions stand at each theorem. Proved here: what the landed .. -/
import Derived.Test.YtcefmpnijjcekaaGreatDoorTk12
import Derived.Test.YtcefmpnijjcekaaGreatDoorTk9
import Derived.Maps.OwnSet
import Derived.Deep.QuietTactic
import Derived.BigQuiet
import Derived.Test.YtcefmpnijjcekaaGreatDoorTk0
set_option linter.unusedVariables false
set_option linter.unusedSimpArgs false
namespace Go.Proofs.YtcefmpnijjcekaaGreatDoor
open Go.RowKit
def spotsL:List (Nat × Nat):=[(0,4),(4,30),(64,30),(94,30),(124,30)]
theorem partsV_map (g:Nat):partsVT g=spotsL.map (fun p=>partV g p.1 p.2):=rfl
theorem spots_fit {i:Nat} {p:Nat × Nat} (h:spotsL[i]?=some p):p.1+p.2≤159∧p.2≤30:=by
  have:=List.mem_of_getElem? h
  simp only [spotsL,List.mem_cons,List.mem_nil_iff,or_false] at this
  rcases this with rfl | rfl | rfl | rfl | rfl <;> decide
def fillL (ps:List (Nat × Nat)) (s:List Int × List Int):List Int × List Int:=ps.foldl (fun s p=>(lay s.1 p.1 (s.2.take p.2),s.2.drop p.2)) s
theorem fillL_snoc (ps:List (Nat × Nat)) (p:Nat × Nat) (s:List Int × List Int):fillL (ps ++ [p]) s=(lay (fillL ps s).1 p.1 ((fillL ps s).2.take p.2),(fillL ps s).2.drop p.2):=by
  unfold fillL
  rw [List.foldl_append]
  rfl
theorem fillL_length (ps:List (Nat × Nat)):∀ s:List Int × List Int,(fillL ps s).1.length=s.1.length:=by
  induction ps with
  | nil=>intro s;rfl
  | cons p r ih=>intro s;show (fillL r (lay s.1 p.1 (s.2.take p.2),s.2.drop p.2)).1.length=_;rw [ih];exact lay_length _ _ _
def splitL (zs:List Int):List Int:=(fillL spotsL (List.replicate 159 0,zs)).1
def Row5 (w:World) (b g:Nat):Prop:=∀ j u,(partsVT g)[j]?=some u→w.cell? ⟨b,j,none⟩=some u
theorem row5_of {w:World} {base g:Nat} {v:Value} (h:w.ownsRow base 31 1 v 5 (partsVT g)):∃ b cap,v=.slice (some ⟨b,0,none⟩) 5 cap∧base≤b∧Row5 w b g:=by
  rcases h.2 with ⟨_,h0⟩ | ⟨b,cap,cur,hv,hb,_⟩
  · cases h0
  · refine ⟨b,cap,hv,hb,fun j u hj=>?_⟩
    have:=h.cells (g:=b) (by rw [hv];rfl) j u hj
    rw [Go.WideShapes.add_plain] at this
    simpa using this
theorem Row5.keeps {w w':World} {b g k:Nat} (h:Row5 w b g) (hk:Keeps k w w') (hb:b≠k):Row5 w' b g:=fun j u hj=>by
  rw [hk.cell (p:=⟨b,j,none⟩) hb]
  exact h j u hj
def Rest (w:World) (v:Value) (zs:List Int):Prop:=∃ ao len cap,v=.slice ao len cap∧IArg w ao len cap zs
theorem made_chart (w:World):OwnV w.heap.size w w.heap.size (ints (List.replicate 159 0)) (w.alloc (.cells Tryz.zeroCells232 232)):=by
  have e:Tryz.zeroCells232=(ints (List.replicate 159 0)).toArray:=rfl
  refine ⟨fun j x hj=>?_,fun j=>by rw [World.frozen?_alloc_mark];simp,Nat.le_refl _,(Below.refl _ _).alloc (Nat.le_refl _) _⟩
  rw [World.cell?_alloc_new,e]
  simpa using hj
theorem rest_next {wr w5:World} {g:Nat} {x:Addr} {rl rc m n:Nat} {F:List Int} (hR:IArg wr (some x) rl rc F) (hk:Keeps g wr w5) (hx:0 < rl→x.block≠g) (hm:min rl n=m) (y:Addr) (hy:rc≠m→y=x.add m):IArg w5 (some y) (rl - m) (rc - m) (F.drop n):=by
  have hl:=hR.len
  have hb:=hR.big
  have hc:=hR.2.2.2
  by_cases h0:rl - m=0
  · have e:F.drop n=[]:=List.length_eq_zero_iff.1 (by rw [List.length_drop];omega)
    rw [e,h0]
    exact ⟨⟨rfl,by omega,Or.inl rfl⟩,by simp,(fun e=>by cases e),by omega⟩
  · obtain rfl:m=n:=by omega
    have hx2:∃ b off,x=⟨b,off,none⟩:=by
      obtain ⟨b,off,he,_⟩:=hR.1.2.2.resolve_left (by omega)
      exact ⟨b,off,by simpa using he⟩
    obtain ⟨b,off,rfl⟩:=hx2
    rw [hy (by omega),Go.WideShapes.add_plain]
    exact hk.iarg (hR.drop (by omega)) (hx (by omega))
theorem add_blk (a:Addr) (j:Nat):(a.add j).block=a.block:=by
  unfold Addr.add
  split <;> rfl
def Laid (base:Nat) (w0:World) (g b:Nat) (zs:List Int) (i:Nat) (v:Value) (wr:World):Prop:=
  OwnV base w0 g (ints (fillL (spotsL.take i) (List.replicate 159 0,zs)).1) wr∧Row5 wr b g∧b≠g∧Rest wr v (fillL (spotsL.take i) (List.replicate 159 0,zs)).2∧(∀ ao len cap,v=.slice (some ao) len cap→0 < len→ao.block < base)
theorem Laid.next {base b g i:Nat} {w0 wr w5:World} {zs F1 F2:List Int} {o n:Nat} {v:Value} (hS:fillL (spotsL.take (i+1)) (List.replicate 159 0,zs)=(lay F1 o (F2.take n),F2.drop n)) (hO:OwnV base w0 g (ints (lay F1 o (F2.take n))) w5) (h5:Row5 wr b g) (hne:b≠g) (hk:Keeps g wr w5)
    (hR:Rest w5 v (F2.drop n)) (hbl:∀ ao len cap,v=.slice (some ao) len cap→0 < len→ao.block < base):Laid base w0 g b zs (i+1) v w5:=by
  unfold Laid
  rw [hS]
  exact ⟨hO,h5.keeps hk hne,hne,hR,hbl⟩
set_option maxRecDepth 100000 in
set_option maxHeartbeats 3200000 in
theorem split_any (ao:Option Addr) (len cap:Nat) (zs:List Int) (w:World) (hA:IArg w ao len cap zs):Calls Tryz.prog 160 #[.slice ao len cap] w fun e w'=>∃ g,e=.returned (.pointer (some ⟨g,0,none⟩))∧OwnV w.heap.size w g (ints (splitL zs)) w':=by
  have HA:=Lib.hid hA
  have HIN:Hid (∀ a,ao=some a→0 < len→a.block < w.heap.size):=Lib.hid (fun a ha h0=>by
    obtain ⟨b,off,x,e,_,hc,_⟩:=hA.at h0
    rw [ha] at e
    cases e
    exact World.block_lt_of_cell? _ _ hc)
  have HM:=Lib.hid (made_chart w)
  clear hA
  go_enter Tryz.func160,Tryz.ntmps160
  go_wp2_with (go_at_call 202;refine (parts_any _ _).mono ?_;rintro e w2 ⟨v,rfl,ho,hb⟩;obtain ⟨b,cb,rfl,hbb,h5⟩:=row5_of ho;have H5:=Lib.hid h5;have HB:=Lib.hid hb;have HBB:=Lib.hid hbb;clear ho hb hbb h5)
  have HL0:Hid (Laid w.heap.size w w.heap.size b zs 0 (.slice ao len cap) w2):=Lib.hid (by
    refine ⟨HM.out.later HB.out (by simp [ints]),H5.out,?_,⟨ao,len,cap,rfl,(HA.out.later ((Below.refl _ _).alloc (Nat.le_refl _) _)).later HB.out⟩,?_⟩
    · have:=HBB.out
      simp at this
      omega
    · intro a l c e h0
      simp only [Value.slice.injEq] at e
      exact HIN.out a e.1 (by omega))
  go_loopw [0,11] (fun v iv wr=>∃ i:Nat,iv=.int .i64 (i:Int)∧i≤5∧Hid (Laid w.heap.size w w.heap.size b zs i v wr)) (fun _ iv _=>5 - (intOf iv).toNat)
  case atStart=>exact ⟨0,rfl,Nat.zero_le _,HL0⟩
  case round=>
    obtain ⟨i,rfl,hi,HL⟩:=hrel
    by_cases hlt:i < 5
    · obtain ⟨⟨o,n⟩,hs⟩:∃ p,spotsL[i]?=some p:=⟨_,List.getElem?_eq_getElem hlt⟩
      have hfit:=spots_fit hs
      dsimp only at hfit
      have d1:wr.cell? ⟨b,i,none⟩=some (.slice (some ⟨w.heap.size,o,none⟩) n n):=HL.out.2.1 i _ (by rw [partsV_map,List.getElem?_map,hs];rfl)
      have i1:(i:Int) < 5:=by omega
      have HS:Hid (fillL (spotsL.take (i+1)) (List.replicate 159 0,zs)=(lay (fillL (spotsL.take i) (List.replicate 159 0,zs)).1 o ((fillL (spotsL.take i) (List.replicate 159 0,zs)).2.take n),(fillL (spotsL.take i) (List.replicate 159 0,zs)).2.drop n)):=Lib.hid (by
        rw [List.take_add_one,hs]
        exact fillL_snoc _ _ _)
      have hlen:(fillL (spotsL.take i) (List.replicate 159 0,zs)).1.length=159:=by rw [fillL_length];exact List.length_replicate
      obtain ⟨hO,h5,hne,⟨ra,rl,rc,rfl,hR⟩,hbl⟩:=HL.out
      have HO:=Lib.hid hO
      have HR:=Lib.hid hR
      have H5:=Lib.hid h5
      have HBL:=Lib.hid hbl
      have HC:=own_copy_ints (off:=o) (len:=n) (cap:=n) hO (by omega) ra rl rc _ hR 3
      generalize fillL (spotsL.take i) (List.replicate 159 0,zs)=F at *
      obtain ⟨F1,F2⟩:=F
      dsimp only at *
      have hle:=hR.2.2.2
      obtain ⟨m,hm⟩:∃ m,min rl n=m:=⟨_,rfl⟩
      rw [hm] at HC
      have HMn:=Lib.hid hm
      have m1:(m:Int)≤(rl:Int):=by omega
      have m2:(m:Int)≤(rc:Int):=by omega
      have m3:m≤rl:=by omega
      have m4:m≤rc:=by omega
      have HCC:=Lib.hid HC
      clear hO hR h5 hbl HC hfit hlen hs hm
      cases ra with
      | none=>
        obtain ⟨rfl,rfl⟩:=HR.out.2.2.1 rfl
        obtain rfl:m=0:=by omega
        go_wp2_with (refine wp_copy rfl (.tmp 16) (.tmp 17) 31 31 rfl _ _ rfl rfl _ HCC.out ?_;rintro v5 w5 ⟨rfl,hO5,hK5⟩;have HO5:=Lib.hid hO5;have HK5:=Lib.hid hK5;clear hO5 hK5)
        go_roundw
        case rel=>exact ⟨i+1,by go_num,by omega,Lib.hid (Laid.next HS.out HO5.out H5.out hne HK5.out ⟨none,0,0,rfl,by
          obtain rfl:F2=[]:=List.length_eq_zero_iff.1 HR.out.len
          rw [List.drop_nil]
          exact IArg.nil _⟩ (fun _ _ _ e=>by cases e))⟩
        case measure=>simp [intOf];omega
      | some x=>
        have HX:Hid (0 < rl→x.block≠w.heap.size):=Lib.hid (fun h=>by have:=HBL.out x rl rc rfl h;omega)
        by_cases hc:rc=m
        · go_wp2_with (refine wp_copy rfl (.tmp 16) (.tmp 17) 31 31 rfl _ _ rfl rfl _ HCC.out ?_;rintro v5 w5 ⟨rfl,hO5,hK5⟩;have HO5:=Lib.hid hO5;have HK5:=Lib.hid hK5;clear hO5 hK5)
          go_roundw
          case rel=>exact ⟨i+1,by go_num,by omega,Lib.hid (Laid.next HS.out HO5.out H5.out hne HK5.out ⟨_,_,_,rfl,by
            have:=rest_next HR.out HK5.out HX.out HMn.out x (fun h=>absurd hc h)
            rwa [show rc - m=0 by omega] at this⟩ (fun a _ _ e h0=>by
              simp only [Value.slice.injEq,Option.some.injEq] at e
              obtain ⟨rfl,e2,-⟩:=e
              exact HBL.out x rl rc rfl (by omega)))⟩
          case measure=>simp [intOf];omega
        · go_wp2_with (refine wp_copy rfl (.tmp 16) (.tmp 17) 31 31 rfl _ _ rfl rfl _ HCC.out ?_;rintro v5 w5 ⟨rfl,hO5,hK5⟩;have HO5:=Lib.hid hO5;have HK5:=Lib.hid hK5;clear hO5 hK5)
          go_roundw
          case rel=>exact ⟨i+1,by go_num,by omega,Lib.hid (Laid.next HS.out HO5.out H5.out hne HK5.out ⟨_,_,_,rfl,rest_next HR.out HK5.out HX.out HMn.out (x.add m) (fun _=>rfl)⟩ (fun a _ _ e h0=>by
              simp only [Value.slice.injEq,Option.some.injEq] at e
              obtain ⟨rfl,e2,-⟩:=e
              rw [add_blk]
              exact HBL.out x rl rc rfl (by omega)))⟩
          case measure=>simp [intOf];omega
    · obtain rfl:i=5:=by omega
      go_wp2_with fail
      go_ret
      exact ⟨_,rfl,HL.out.1⟩
/-! ### Zeros at the end -/
theorem trim_take_zero {zs:List Int} {k:Nat} (hk:k+1≤zs.length) (h0:zs[k]?=some 0):trimL (zs.take (k+1))=trimL (zs.take k):=by
  rw [List.take_add_one,h0]
  exact trim_append_zeros _ 1
theorem trim_last {l:List Int} {x:Int} (hx:x≠0):trimL (l ++ [x])=l ++ [x]:=by
  induction l with
  | nil=>show (if x=0∧trimL []=[] then [] else x::trimL [])=_;rw [if_neg (fun h=>hx h.1)];rfl
  | cons y r ih=>
    show (if y=0∧trimL (r ++ [x])=[] then [] else y::trimL (r ++ [x]))=_
    rw [ih,if_neg (fun h=>by simp at h)]
    rfl
theorem trim_trim (l:List Int):trimL (trimL l)=trimL l:=by
  induction l with
  | nil=>rfl
  | cons x r ih=>
    by_cases h:x=0∧trimL r=[]
    · rw [show trimL (x::r)=[] from if_pos h];rfl
    · rw [show trimL (x::r)=x::trimL r from if_neg h]
      show (if x=0∧trimL (trimL r)=[] then [] else x::trimL (trimL r))=_
      rw [ih,if_neg h]
theorem trim_take {zs:List Int}:zs.take (trimL zs).length=trimL zs:=by
  obtain ⟨n,h⟩:=trim_prefix zs
  conv=>lhs;rw [h,trim_append_zeros]
  rw [trim_trim]
  exact List.take_left
def lenV:Value→Nat
  | .slice _ l _=>l
  | _=>0
set_option maxRecDepth 100000 in
set_option maxHeartbeats 3200000 in
theorem trimmed_any (ao:Option Addr) (len cap:Nat) (zs:List Int) (w:World) (hA:IArg w ao len cap zs):Calls Tryz.prog 172 #[.slice ao len cap] w fun e w'=>e=.returned (.slice ao (trimL zs).length cap)∧w=w':=by
  have HA:=Lib.hid hA
  have hb:=hA.big
  have hc:=hA.2.2.2
  have HN:=Lib.hid hA.len
  clear hA
  go_enter Tryz.func172,Tryz.ntmps172
  go_wp2_with fail
  go_loopw [0] (fun v wr=>∃ k:Nat,v=.slice ao k cap∧k≤len∧Hid (trimL (zs.take k)=trimL zs)∧Hid (w=wr)) (fun v _=>lenV v)
  case atStart=>exact ⟨len,rfl,Nat.le_refl _,Lib.hid (by rw [← HN.out,List.take_length]),Lib.hid rfl⟩
  case round=>
    obtain ⟨k,rfl,hk,HT,HW⟩:=hrel
    by_cases h0:k=0
    · subst h0
      have HE:Hid ((trimL zs).length=0):=Lib.hid (by rw [← HT.out];rfl)
      go_wp2_with fail
      go_ret
      exact ⟨by rw [HE.out];rfl,HW.out⟩
    · obtain ⟨q,rfl⟩:∃ q,k=q+1:=⟨k - 1,by omega⟩
      obtain ⟨b,off,x,rfl,hx,hcell,hI⟩:=HA.out.at (i:=q) (by omega)
      have hcell:wr.cell? ⟨b,off+q,none⟩=some (.int .i64 x):=by rw [← HW.out];exact hcell
      have k1:(0:Int) < ((q+1:Nat):Int):=by omega
      have k2:wrap64 (((q+1:Nat):Int) - 1)=(q:Int):=by unfold wrap64;omega
      have HX:=Lib.hid hx
      clear hx hI
      by_cases hx0:x=0
      · subst hx0
        have HT2:Hid (trimL (zs.take q)=trimL zs):=Lib.hid (by rw [← trim_take_zero (by rw [HN.out];omega) HX.out];exact HT.out)
        go_wp2_with fail
        go_roundw
        case rel=>exact ⟨q,by first | rfl | go_num,by omega,HT2,HW⟩
        case measure=>simp [lenV]
      · have HE:Hid ((trimL zs).length=q+1):=Lib.hid (by
          have h:=HT.out
          rw [List.take_add_one,HX.out] at h
          rw [← h]
          show (trimL (zs.take q ++ [x])).length=_
          rw [trim_last hx0,List.length_append,List.length_take,HN.out]
          simp only [List.length_cons,List.length_nil]
          omega)
        go_wp2_with fail
        go_ret
        exact ⟨by rw [HE.out];rfl,HW.out⟩
/-! ### Pointers out of a chart -/
def accL (L:List Int) (i:Nat):List Int:=(spotsL.take i).flatMap (fun p=>(L.drop p.1).take p.2)
def joinL (L:List Int):List Int:=accL L 5
theorem acc_snoc {L:List Int} {i o n:Nat} (h:spotsL[i]?=some (o,n)):accL L (i+1)=accL L i ++ (L.drop o).take n:=by
  unfold accL
  rw [List.take_add_one,h]
  simp
theorem lay_end (P cs:List Int) (k:Nat) (h:cs.length≤k):lay (P ++ List.replicate k 0) P.length cs=(P ++ cs) ++ List.replicate (k - cs.length) 0:=by
  rw [lay_eq _ _ _ (by rw [List.length_append,List.length_replicate];omega),List.take_left,← List.drop_drop,List.drop_left,List.drop_replicate]
def Joining (w0:World) (L:List Int) (g A b:Nat) (i at_:Nat) (wr:World):Prop:=
  OwnV w0.heap.size w0 A (ints (accL L i ++ List.replicate (124 - at_) 0)) wr∧Row5 wr b g∧b≠A∧(accL L i).length=at_
theorem Joining.next {w0 wr w5:World} {L:List Int} {g A b i at_ o n k:Nat} (h:Joining w0 L g A b i at_ wr) (hs:spotsL[i]?=some (o,n)) (hL:L.length=159) (hn:o+n≤159) (hfit:at_+n≤124) (hkn:n≤k)
    (hO:OwnV w0.heap.size w0 A (ints (lay (accL L i ++ List.replicate (124 - at_) 0) at_ (((L.drop o).take n).take k))) w5) (hk:Keeps A wr w5):Joining w0 L g A b (i+1) (at_+n) w5:=by
  obtain ⟨h1,h2,h3,h4⟩:=h
  have hl:((L.drop o).take n).length=n:=by rw [List.length_take,List.length_drop];omega
  rw [List.take_of_length_le (by omega)] at hO
  rw [← h4,lay_end _ _ _ (by omega),hl,← acc_snoc hs] at hO
  refine ⟨?_,h2.keeps hk h3,h3,?_⟩
  · rw [show 124 - (at_+n)=124 - (accL L i).length - n by omega]
    exact hO
  · rw [acc_snoc hs,List.length_append,hl,h4]
theorem made_nums (w:World):OwnV w.heap.size w w.heap.size (ints (List.replicate 124 0)) (w.alloc (.cells (madeCells #[Value.int .i64 0] 124) 3)):=by
  have e:madeCells #[Value.int .i64 0] 124=(ints (List.replicate 124 0)).toArray:=by kernel_rfl
  refine ⟨fun j x hj=>?_,fun j=>by rw [World.frozen?_alloc_mark];simp,Nat.le_refl _,(Below.refl _ _).alloc (Nat.le_refl _) _⟩
  rw [World.cell?_alloc_new,e]
  simpa using hj
set_option maxRecDepth 100000 in
set_option maxHeartbeats 6400000 in
theorem joined_any (g:Nat) (L:List Int) (w:World) (hC:ChartAt w g L) (hz:∀ z ∈ L,I64 z):Calls Tryz.prog 173 #[.pointer (some ⟨g,0,none⟩)] w fun e w'=>∃ v,e=.returned v∧FreshI w' w.heap.size v (joinL L)∧Below w.heap.size w w':=by
  have HC:=Lib.hid hC
  have HZ:=Lib.hid hz
  have HM:=Lib.hid (made_nums w)
  have hmk:(Instr.makeSlice 31 (.int .i64 124) (.int .i64 124)).run Tryz.prog w=.ok (.slice (some ⟨w.heap.size,0,none⟩) 124 124) (w.alloc (.cells (madeCells #[Value.int .i64 0] 124) 3)):=run_make_vals elemI w 124 (by decide)
  have HLL:=Lib.hid hC.1
  have HSRC:Hid (∀ (o n:Nat) (W:World),Below w.heap.size w W→o+n≤159→IArg W (some ⟨g,o,none⟩) n n ((L.drop o).take n)):=Lib.hid (fun o n W hW hon=>by
    have hl:((L.drop o).take n).length=n:=by rw [List.length_take,List.length_drop];have:=hC.1;omega
    have:=iarg_of_range (w:=W) (b:=g) (off:=o) (cap:=n) (zs:=(L.drop o).take n) (range_part (fun j v hj=>cell_later hW (hC.2 j v hj)) o n) (fun z hz'=>hz z (List.mem_of_mem_drop (List.mem_of_mem_take hz'))) (by omega) (by omega)
    rwa [hl] at this)
  clear hC hz
  go_enter Tryz.func173,Tryz.ntmps173
  go_wp2_with (go_at_call 202;refine (parts_any _ _).mono ?_;rintro e w2 ⟨v,rfl,ho,hb⟩;obtain ⟨b,cb,rfl,hbb,h5⟩:=row5_of ho;have H5:=Lib.hid h5;have HB:=Lib.hid hb;have HBB:=Lib.hid hbb;clear ho hb hbb h5)
  have HJ0:Hid (Joining w L g w.heap.size b 0 0 w2):=Lib.hid ⟨HM.out.later HB.out (by simp [ints]),H5.out,by have:=HBB.out;simp at this;omega,rfl⟩
  go_loopw [4,12] (fun v iv wr=>∃ i:Int,iv=.int .i64 i∧(0≤i∧i≤5)∧(i=0→v=.slice (some ⟨w.heap.size,0,none⟩) (124:Nat) (124:Nat))∧(i=1→v=.slice (some ⟨w.heap.size,4,none⟩) (120:Nat) (120:Nat))∧(i=2→v=.slice (some ⟨w.heap.size,34,none⟩) (90:Nat) (90:Nat))∧(i=3→v=.slice (some ⟨w.heap.size,64,none⟩) (60:Nat) (60:Nat))∧(i=4→v=.slice (some ⟨w.heap.size,94,none⟩) (30:Nat) (30:Nat))∧Hid (Joining w L g w.heap.size b i.toNat ((if i=0 then 0 else (30 * i - 26).toNat)) wr)) (fun _ iv _=>5 - (intOf iv).toNat)
  case atStart=>exact ⟨0,rfl,by decide,fun _=>rfl,(fun h=>by cases h),(fun h=>by cases h),(fun h=>by cases h),(fun h=>by cases h),HJ0⟩
  case round=>
    obtain ⟨i,rfl,hi,hv0,hv1,hv2,hv3,hv4,HJ⟩:=hrel
    by_cases hlt:i < 5
    · obtain rfl | rfl | rfl | rfl | rfl:i=0∨i=1∨i=2∨i=3∨i=4:=by omega
      · obtain rfl:=hv0 rfl
        clear hv0 hv1 hv2 hv3 hv4
        have HJ:Hid (Joining w L g w.heap.size b 0 0 wr):=HJ
        have d1:wr.cell? ⟨b,0,none⟩=some (.slice (some ⟨g,0,none⟩) ((4:Nat)) ((4:Nat))):=HJ.out.2.1 0 _ rfl
        have hl:(accL L 0 ++ List.replicate (124 - 0) 0).length=124:=by rw [List.length_append,HJ.out.2.2.2,List.length_replicate]
        have HCC:=Lib.hid (own_copy_ints (off:=0) (len:=124) (cap:=124) HJ.out.1 (by rw [hl];decide) _ _ _ _ (HSRC.out 0 4 wr HJ.out.1.2.2.2 (by decide)) 3)
        clear hl
        go_wp2_with (refine wp_copy rfl (.tmp 17) (.tmp 18) 31 31 rfl _ _ rfl rfl _ HCC.out ?_;rintro v5 w5 ⟨rfl,hO5,hK5⟩;have HO5:=Lib.hid hO5;have HK5:=Lib.hid hK5;clear hO5 hK5)
        go_roundw
        case rel=>exact ⟨1,rfl,by decide,(fun h=>by first | rfl | exact absurd h (by decide)),(fun h=>by first | rfl | exact absurd h (by decide)),(fun h=>by first | rfl | exact absurd h (by decide)),(fun h=>by first | rfl | exact absurd h (by decide)),(fun h=>by first | rfl | exact absurd h (by decide)),Lib.hid (HJ.out.next rfl HLL.out (by decide) (by decide) (by decide) HO5.out HK5.out)⟩
        case measure=>simp [intOf]
      · obtain rfl:=hv1 rfl
        clear hv0 hv1 hv2 hv3 hv4
        have HJ:Hid (Joining w L g w.heap.size b 1 4 wr):=HJ
        have d1:wr.cell? ⟨b,1,none⟩=some (.slice (some ⟨g,4,none⟩) ((30:Nat)) ((30:Nat))):=HJ.out.2.1 1 _ rfl
        have hl:(accL L 1 ++ List.replicate (124 - 4) 0).length=124:=by rw [List.length_append,HJ.out.2.2.2,List.length_replicate]
        have HCC:=Lib.hid (own_copy_ints (off:=4) (len:=120) (cap:=120) HJ.out.1 (by rw [hl];decide) _ _ _ _ (HSRC.out 4 30 wr HJ.out.1.2.2.2 (by decide)) 3)
        clear hl
        go_wp2_with (refine wp_copy rfl (.tmp 17) (.tmp 18) 31 31 rfl _ _ rfl rfl _ HCC.out ?_;rintro v5 w5 ⟨rfl,hO5,hK5⟩;have HO5:=Lib.hid hO5;have HK5:=Lib.hid hK5;clear hO5 hK5)
        go_roundw
        case rel=>exact ⟨2,rfl,by decide,(fun h=>by first | rfl | exact absurd h (by decide)),(fun h=>by first | rfl | exact absurd h (by decide)),(fun h=>by first | rfl | exact absurd h (by decide)),(fun h=>by first | rfl | exact absurd h (by decide)),(fun h=>by first | rfl | exact absurd h (by decide)),Lib.hid (HJ.out.next rfl HLL.out (by decide) (by decide) (by decide) HO5.out HK5.out)⟩
        case measure=>simp [intOf]
      · obtain rfl:=hv2 rfl
        clear hv0 hv1 hv2 hv3 hv4
        have HJ:Hid (Joining w L g w.heap.size b 2 34 wr):=HJ
        have d1:wr.cell? ⟨b,2,none⟩=some (.slice (some ⟨g,64,none⟩) ((30:Nat)) ((30:Nat))):=HJ.out.2.1 2 _ rfl
        have hl:(accL L 2 ++ List.replicate (124 - 34) 0).length=124:=by rw [List.length_append,HJ.out.2.2.2,List.length_replicate]
        have HCC:=Lib.hid (own_copy_ints (off:=34) (len:=90) (cap:=90) HJ.out.1 (by rw [hl];decide) _ _ _ _ (HSRC.out 64 30 wr HJ.out.1.2.2.2 (by decide)) 3)
        clear hl
        go_wp2_with (refine wp_copy rfl (.tmp 17) (.tmp 18) 31 31 rfl _ _ rfl rfl _ HCC.out ?_;rintro v5 w5 ⟨rfl,hO5,hK5⟩;have HO5:=Lib.hid hO5;have HK5:=Lib.hid hK5;clear hO5 hK5)
        go_roundw
        case rel=>exact ⟨3,rfl,by decide,(fun h=>by first | rfl | exact absurd h (by decide)),(fun h=>by first | rfl | exact absurd h (by decide)),(fun h=>by first | rfl | exact absurd h (by decide)),(fun h=>by first | rfl | exact absurd h (by decide)),(fun h=>by first | rfl | exact absurd h (by decide)),Lib.hid (HJ.out.next rfl HLL.out (by decide) (by decide) (by decide) HO5.out HK5.out)⟩
        case measure=>simp [intOf]
      · obtain rfl:=hv3 rfl
        clear hv0 hv1 hv2 hv3 hv4
        have HJ:Hid (Joining w L g w.heap.size b 3 64 wr):=HJ
        have d1:wr.cell? ⟨b,3,none⟩=some (.slice (some ⟨g,94,none⟩) ((30:Nat)) ((30:Nat))):=HJ.out.2.1 3 _ rfl
        have hl:(accL L 3 ++ List.replicate (124 - 64) 0).length=124:=by rw [List.length_append,HJ.out.2.2.2,List.length_replicate]
        have HCC:=Lib.hid (own_copy_ints (off:=64) (len:=60) (cap:=60) HJ.out.1 (by rw [hl];decide) _ _ _ _ (HSRC.out 94 30 wr HJ.out.1.2.2.2 (by decide)) 3)
        clear hl
        go_wp2_with (refine wp_copy rfl (.tmp 17) (.tmp 18) 31 31 rfl _ _ rfl rfl _ HCC.out ?_;rintro v5 w5 ⟨rfl,hO5,hK5⟩;have HO5:=Lib.hid hO5;have HK5:=Lib.hid hK5;clear hO5 hK5)
        go_roundw
        case rel=>exact ⟨4,rfl,by decide,(fun h=>by first | rfl | exact absurd h (by decide)),(fun h=>by first | rfl | exact absurd h (by decide)),(fun h=>by first | rfl | exact absurd h (by decide)),(fun h=>by first | rfl | exact absurd h (by decide)),(fun h=>by first | rfl | exact absurd h (by decide)),Lib.hid (HJ.out.next rfl HLL.out (by decide) (by decide) (by decide) HO5.out HK5.out)⟩
        case measure=>simp [intOf]
      · obtain rfl:=hv4 rfl
        clear hv0 hv1 hv2 hv3 hv4
        have HJ:Hid (Joining w L g w.heap.size b 4 94 wr):=HJ
        have d1:wr.cell? ⟨b,4,none⟩=some (.slice (some ⟨g,124,none⟩) ((30:Nat)) ((30:Nat))):=HJ.out.2.1 4 _ rfl
        have hl:(accL L 4 ++ List.replicate (124 - 94) 0).length=124:=by rw [List.length_append,HJ.out.2.2.2,List.length_replicate]
        have HCC:=Lib.hid (own_copy_ints (off:=94) (len:=30) (cap:=30) HJ.out.1 (by rw [hl];decide) _ _ _ _ (HSRC.out 124 30 wr HJ.out.1.2.2.2 (by decide)) 3)
        clear hl
        go_wp2_with (refine wp_copy rfl (.tmp 17) (.tmp 18) 31 31 rfl _ _ rfl rfl _ HCC.out ?_;rintro v5 w5 ⟨rfl,hO5,hK5⟩;have HO5:=Lib.hid hO5;have HK5:=Lib.hid hK5;clear hO5 hK5)
        go_roundw
        case rel=>exact ⟨5,rfl,by decide,(fun h=>by first | rfl | exact absurd h (by decide)),(fun h=>by first | rfl | exact absurd h (by decide)),(fun h=>by first | rfl | exact absurd h (by decide)),(fun h=>by first | rfl | exact absurd h (by decide)),(fun h=>by first | rfl | exact absurd h (by decide)),Lib.hid (HJ.out.next rfl HLL.out (by decide) (by decide) (by decide) HO5.out HK5.out)⟩
        case measure=>simp [intOf]
    · obtain rfl:i=5:=by omega
      have HJ:Hid (Joining w L g w.heap.size b 5 124 wr):=HJ
      have HF:Hid (FreshI wr w.heap.size (.slice (some ⟨w.heap.size,0,none⟩) (124:Nat) (124:Nat)) (joinL L)):=Lib.hid (by
        obtain ⟨j1,j2,j3,j4⟩:=HJ.out
        have hl:(joinL L).length=124:=j4
        have e:accL L 5 ++ List.replicate (124 - 124) 0=joinL L:=List.append_nil _
        rw [e] at j1
        have hzz:∀ z ∈ joinL L,I64 z:=fun z hz=>by
          unfold joinL accL at hz
          obtain ⟨p,_,hp⟩:=List.mem_flatMap.1 hz
          exact HZ.out z (List.mem_of_mem_drop (List.mem_of_mem_take hp))
        have:=iarg_of_range (cap:=124) (own_range j1) hzz (by omega) (by omega)
        rw [hl] at this
        exact ⟨_,124,by rw [hl],by rw [hl];exact this,Or.inr ⟨_,0,rfl,Nat.le_refl _⟩⟩)
      clear hv0 hv1 hv2 hv3 hv4
      go_wp2_with fail
      go_ret
      exact ⟨_,rfl,HF.out,HJ.out.1.2.2.2⟩
end Go.Proofs.YtcefmpnijjcekaaGreatDoor
namespace Go.Proofs.YtcefmpnijjcekaaGreatDoor
open Go.RowKit
theorem apart_snoc (l:List Int) (x:Int):apartL (l ++ [x])=(apartL l&&(decide (x=0)||(decide (59≤x∧x≤479)&&!decide (x ∈ l)))):=by
  by_cases hx:x=0
  · subst hx
    have:=apart_zeros (a:=l) 1
    rw [show List.replicate 1 (0:Int)=[0] from rfl] at this
    rw [this]
    simp
  · have e:nzL [x]=[x]:=by unfold nzL nzB;simp [hx]
    have hm:x ∈ nzL l ↔ x ∈ l:=by
      unfold nzL
      rw [List.mem_filter]
      unfold nzB
      simp [hx]
    unfold apartL
    rw [nz_append,e,List.all_append,decide_eq_false hx,Bool.false_or,Bool.eq_iff_iff]
    simp only [Bool.and_eq_true,decide_eq_true_eq,List.all_cons,List.all_nil,and_true,Bool.not_eq_true',decide_eq_false_iff_not]
    rw [List.nodup_append]
    have hok:okP x=true ↔ 59≤x∧x≤479:=by unfold okP;simp [hx]
    rw [hok]
    constructor
    · rintro ⟨⟨h1,h2⟩,h3,h4,h5⟩
      exact ⟨⟨h1,h3⟩,h2,fun hl=>h5 x (hm.2 hl) x (by simp) rfl⟩
    · rintro ⟨⟨h1,h3⟩,h2,h4⟩
      refine ⟨⟨h1,h2⟩,h3,by simp,fun a ha b hb e=>?_⟩
      rw [List.mem_singleton] at hb
      rw [hb] at e
      rw [e] at ha
      exact h4 (hm.1 ha)
theorem apart_take {l:List Int} {i:Nat} (h:apartL (l.take i)=false):apartL l=false:=by
  rw [← Bool.not_eq_true] at h ⊢
  intro hl
  rw [← List.take_append_drop i l] at hl
  exact h (apart_append hl).1
theorem IArg.grown {w w':World} {b off len cap k:Nat} {zs:List Int} (h:IArg w (some ⟨b,off,none⟩) len cap zs) (hg:w.grownBy w' (some k)) (hb:b≠k):IArg w' (some ⟨b,off,none⟩) len cap zs:=by
  refine ⟨⟨h.1.1,h.1.2.1,?_⟩,h.2⟩
  rcases h.1.2.2 with h0 | ⟨b',o',he,hc⟩
  · exact Or.inl h0
  · simp only [Option.some.injEq,Addr.mk.injEq,and_true] at he
    obtain ⟨rfl,rfl⟩:=he
    exact Or.inr ⟨b,off,rfl,fun j x hj=>hg.cell (hc j x hj) (fun e=>hb (by simpa using e))⟩
def SeenIs (w:World) (b n:Nat) (f:Int→Int):Prop:=
  ∃ D:DataW Unit,w.ownsMap Tryz.prog 3 (plainElem Tryz.prog 3) b n D∧∀ p,D.atKey (.int .i64 p) (.lit (.int .i64 0))=.lit (.int .i64 (f p))
theorem SeenIs.kept {w w':World} {b n:Nat} {f:Int→Int} (h:SeenIs w b n f) (hb:Below w.heap.size w w'):SeenIs w' b n f:=by
  obtain ⟨D,h1,h2⟩:=h
  exact ⟨D,h1.kept (row:=none) ⟨hb.os,hb.tape,hb.output,hb.size,fun k hk _=>hb.block k hk⟩ (by simp),h2⟩
theorem SeenIs.made (w:World):SeenIs (w.alloc (.map #[] 0)) w.heap.size 0 (fun _=>0):=
  ⟨_,World.ownsMap_made _ _ _ _,fun p=>rfl⟩
theorem SeenIs.lt {w:World} {b n:Nat} {f:Int→Int} (h:SeenIs w b n f):b < w.heap.size:=h.choose_spec.1.lt
theorem SeenIs.congr {w:World} {b n:Nat} {f g:Int→Int} (h:SeenIs w b n f) (e:∀ p,g p=f p):SeenIs w b n g:=by
  obtain ⟨D,h1,h2⟩:=h
  exact ⟨D,h1,fun p=>by rw [e];exact h2 p⟩
theorem seenKeyed:Maps.Keyed Tryz.prog 3:=Maps.int_keyed Tryz.underlying3
theorem seen_zero (w:World):(zeroValue 3).run Tryz.prog w=.ok (.int .i64 0) w:=by kernel_rfl
theorem wf64 {p:Int} (h:I64 p):(Lit.int .i64 p).wf=true:=by
  unfold I64 at h
  simp [Lit.wf,IntKind.min,IntKind.max,IntKind.bits,IntKind.signed]
  omega
theorem key_i64 {p:Int} (h:I64 p):keyOf Tryz.prog 3 (.int .i64 p)=some (.int .i64 p):=Maps.keyOf_int_mk Tryz.underlying3 (wf64 h)
section
variable {ops:Array Oper} {rest:List Oper} {o:Oper} {a:Act} {w:World} {Q:Exit→Act→World→Prop}
theorem wp_seen_look (hgd:o.guard=none) (m x:Operand) (hop:o.op=Op.lookup 271 m x false) (b n:Nat) (f:Int→Int) (hm:a.eval m=.map (some b)) (h:SeenIs w b n f)
    (p:Int) (hx:a.eval x=.int .i64 p) (hp:I64 p) (c:Int) (hc:f p=c)
    (hK:wpList Tryz.prog ops Q rest (a.put o.dst (.int .i64 c)) w):wpList Tryz.prog ops Q (o::rest) a w:=by
  obtain ⟨D,h1,h2⟩:=h
  refine wpList_lookup_own_int w hgd m x _ hop _ _ .i64 seenKeyed Tryz.underlying271 Tryz.underlying3 (seen_zero w) b n D hm h1 (.int .i64 p) (.int .i64 p) hx (key_i64 hp) (fun c' hat _=>?_)
  rw [h2 p] at hat
  simp only [DataW.lit.injEq,Lit.int.injEq,true_and] at hat
  rw [← hat,hc]
  exact hK
theorem wp_seen_put (hgd:o.guard=none) (m x v:Operand) (hop:o.op=Op.mapUpdate 271 m x v) (base b n:Nat) (f:Int→Int) (hm:a.eval m=.map (some b)) (h:SeenIs w b n f)
    (p:Int) (hx:a.eval x=.int .i64 p) (hp:I64 p) (c:Int) (hv:a.eval v=.int .i64 c) (hc:I64 c) (hn:n≤100000) (hb:base≤b)
    (hK:∀ w',SeenIs w' b (n+1) (fun q=>if q=p then c else f q)→Below base w w'→w.grownBy w' (some b)→wpList Tryz.prog ops Q rest (a.put o.dst undef) w'):wpList Tryz.prog ops Q (o::rest) a w:=by
  have hlt:=h.lt
  obtain ⟨D,h1,h2⟩:=h
  refine wpList_mapUpdate_own w hgd m x v _ hop _ _ seenKeyed Tryz.underlying271 (plainElem Tryz.prog 3) b n D hm h1 (by unfold maxLen;omega) (.int .i64 p) _ (.int .i64 p) hx hv (key_i64 hp) (.lit (.int .i64 c)) [] (plainElem_int Tryz.underlying3 (wf64 hc)) (fun w' h3 h4=>?_)
  refine hK w' ⟨_,h3,fun q=>?_⟩ ((Below.refl base w).grown h4 (by omega) (fun j hj=>by cases hj;exact hb)) h4
  by_cases e:q=p
  · subst e
    show _=DataW.lit (.int .i64 (if q=q then c else f q))
    rw [if_pos rfl]
    exact Maps.atKey_put_same h1.isMap (show WideAt.IsKeyLit (.int .i64 q) from trivial) _ _
  · have hne:(Lit.int .i64 q)≠Lit.int .i64 p:=fun he=>e (by cases he;rfl)
    show _=DataW.lit (.int .i64 (if q=p then c else f q))
    rw [if_neg e,Maps.atKey_put_other hne]
    exact h2 q
end
set_option maxRecDepth 100000 in
set_option maxHeartbeats 6400000 in
theorem apart_any (b off n cap:Nat) (ls:List (List Int)) (w:World) (hn:ls.length=n) (hL:ListsIn w b off ls) (h100:lenL ls≤10000) (hn100:n≤100):Calls Tryz.prog 159 #[.slice (some ⟨b,off,none⟩) n cap] w fun e w'=>e=.returned (.bool (apartL ls.flatten))∧Below w.heap.size w w':=by
  have HL:=Lib.hid hL
  have H100:=Lib.hid h100
  have hm:(Instr.makeMap 271 none).run Tryz.prog w=.ok (.map (some w.heap.size)) (w.alloc (.map #[] 0)):=run_makeMap _ _
  have HZ:Hid (∀ z ∈ ls.flatten,I64 z):=Lib.hid (fun z hz=>by
    obtain ⟨l,hl,hzl⟩:=List.mem_flatten.1 hz
    obtain ⟨i,hi,rfl⟩:=List.mem_iff_getElem.1 hl
    obtain ⟨a,l',c,_,d2⟩:=hL i _ (List.getElem?_eq_getElem hi)
    exact d2.2.1 z hzl)
  have HFL:Hid (ls.flatten.length=lenL ls):=Lib.hid (by unfold lenL;rw [List.length_flatten])
  have cC:=Concat_any b off n cap ls (w.alloc (.map #[] 0)) hn (hL.later ((Below.refl _ _).alloc (Nat.le_refl _) _)) h100 hn100
  obtain ⟨T,hT⟩:∃ T,lenL ls=T:=⟨_,rfl⟩
  obtain ⟨F,hF⟩:∃ F,ls.flatten=F:=⟨_,rfl⟩
  rw [hT] at cC HFL H100
  rw [hF] at cC HFL HZ
  rw [hF]
  clear hL h100 hT hF HL
  go_enter Tryz.func159,Tryz.ntmps159
  go_wp2_with (go_at_call 78;refine cC.mono ?_;rintro e w2 ⟨v,rfl,ho,hb⟩;obtain ⟨ra,rc,rfl⟩:=owns_shape_r ho;have HO:=Lib.hid ho;have HB:=Lib.hid hb;clear ho hb)
  have HF1:Hid (IArg w2 ra T rc F):=Lib.hid (by
    obtain ⟨ao,c,h1,h2,_⟩:=fresh_of_ints HO.out HZ.out (by have:=H100.out;omega)
    rw [HFL.out] at h1 h2
    simp only [Value.slice.injEq,true_and] at h1
    obtain ⟨rfl,rfl⟩:=h1
    exact h2)
  have HRB:Hid (∀ a,ra=some a→a.block≠w.heap.size):=Lib.hid (fun a ha=>by
    rcases HO.out.2 with ⟨hv,_⟩ | ⟨g,c,cur,hv,hg,_⟩
    · rw [ha] at hv;cases hv
    · rw [ha] at hv
      simp only [Value.slice.injEq,Option.some.injEq] at hv
      rw [hv.1]
      simp at hg
      show g≠_
      omega)
  have HS0:Hid (SeenIs w2 w.heap.size 0 (fun p=>if p≠0∧p ∈ F.take 0 then 1 else 0)):=Lib.hid (((SeenIs.made w).kept HB.out).congr (fun p=>by simp))
  have HB0:Hid (Below w.heap.size w w2):=Lib.hid (((Below.refl _ _).alloc (Nat.le_refl _) _).trans (HB.out.mono (by simp)))
  have hT:=H100.out
  go_loopw [10] (fun iv wr=>∃ i:Nat,iv=.int .i64 (i:Int)∧i≤T∧Hid (∃ k,k≤i∧SeenIs wr w.heap.size k (fun p=>if p≠0∧p ∈ F.take i then 1 else 0))∧Hid (Below w.heap.size w wr)∧Hid (IArg wr ra T rc F)∧Hid (apartL (F.take i)=true)) (fun iv _=>T - (intOf iv).toNat)
  case atStart=>exact ⟨0,rfl,Nat.zero_le _,Lib.hid ⟨0,Nat.le_refl _,HS0.out⟩,HB0,HF1,Lib.hid rfl⟩
  case round=>
    obtain ⟨i,rfl,hi,HS,HBR,HA,HP⟩:=hrel
    by_cases hlt:i < T
    · obtain ⟨fb,fo,x,rfl,hx,d1,hI⟩:=HA.out.at hlt
      have HX:=Lib.hid hx
      have HI:=Lib.hid hI
      have i1:(i:Int) < (T:Int):=by omega
      have HSN:Hid (F.take (i+1)=F.take i ++ [x]):=Lib.hid (by rw [List.take_add_one,hx];rfl)
      have HAP:=Lib.hid (apart_snoc (F.take i) x)
      clear hx hI
      by_cases h0:x=0
      · subst h0
        have HP2:Hid (apartL (F.take (i+1))=true):=Lib.hid (by rw [HSN.out,HAP.out,HP.out];rfl)
        have HS2:Hid (∃ k,k≤i+1∧SeenIs wr w.heap.size k (fun p=>if p≠0∧p ∈ F.take (i+1) then 1 else 0)):=Lib.hid (by
          obtain ⟨k,hk,hs⟩:=HS.out
          refine ⟨k,by omega,hs.congr (fun p=>?_)⟩
          rw [HSN.out]
          by_cases hp:p=0
          · simp [hp]
          · simp [hp])
        go_wp2_with fail
        go_roundw
        case rel=>exact ⟨i+1,by go_num,by omega,HS2,HBR,HA,HP2⟩
        case measure=>simp [intOf];omega
      · have b0:(x == 0)=false:=by simpa using h0
        obtain ⟨k,hk,hs⟩:=HS.out
        have HSS:=Lib.hid hs
        obtain ⟨c,hc⟩:∃ c,(fun p=>if p≠0∧p ∈ F.take i then (1:Int) else 0) x=c:=⟨_,rfl⟩
        have HC:=Lib.hid hc
        clear hs
        have hc01:c=if x ∈ F.take i then 1 else 0:=by rw [← hc];simp [h0]
        have hci:0≤c∧c≤1:=by rw [hc01];split <;> omega
        have c1:wrap64 (c+1)=c+1:=by unfold wrap64;omega
        have HCI:Hid (I64 (c+1)):=Lib.hid (by unfold I64;omega)
        have HPUT:Hid ((fun q=>if q=x then c+1 else (fun p=>if p≠0∧p ∈ F.take i then (1:Int) else 0) q) x=c+1):=Lib.hid (by simp)
        have HBAD:Hid (apartL (F.take i ++ [x])=false→apartL F=false):=Lib.hid (fun h=>apart_take (i:=i+1) (by rw [HSN.out];exact h))
        clear hc
        by_cases hm:x ∈ F.take i
        · rw [if_pos hm] at hc01
          subst hc01
          have HFA:Hid (apartL F=false):=Lib.hid (HBAD.out (by rw [HAP.out,HP.out,decide_eq_false h0,decide_eq_true hm];simp))
          clear hm hci h0
          go_wp2_with (first | (at_lookup;refine wp_seen_look rfl (.tmp 16) (.tmp 17) rfl w.heap.size k _ rfl HSS.out x rfl HI.out 1 HC.out ?_) | (at_mapUpdate;refine wp_seen_put rfl (.tmp 16) (.tmp 17) (.tmp 19) rfl w.heap.size w.heap.size k _ rfl HSS.out x rfl HI.out _ rfl HCI.out (by omega) (Nat.le_refl _) ?_;intro w5 h5 b5 g5;have H5:=Lib.hid h5;have B5:=Lib.hid b5;have G5:=Lib.hid g5;clear h5 b5 g5) | (at_lookup;refine wp_seen_look rfl (.tmp 20) (.tmp 21) rfl w.heap.size (k+1) _ rfl H5.out x rfl HI.out _ HPUT.out ?_))
          go_ret
          exact ⟨by rw [HFA.out];rfl,HBR.out.trans B5.out⟩
        · rw [if_neg hm] at hc01
          subst hc01
          by_cases hlo:x < 59
          · have HFA:Hid (apartL F=false):=Lib.hid (HBAD.out (by rw [HAP.out,HP.out,decide_eq_false h0,decide_eq_false (fun h=>by omega)];rfl))
            clear hm hci h0
            go_wp2_with (first | (at_lookup;refine wp_seen_look rfl (.tmp 16) (.tmp 17) rfl w.heap.size k _ rfl HSS.out x rfl HI.out 0 HC.out ?_) | (at_mapUpdate;refine wp_seen_put rfl (.tmp 16) (.tmp 17) (.tmp 19) rfl w.heap.size w.heap.size k _ rfl HSS.out x rfl HI.out _ rfl HCI.out (by omega) (Nat.le_refl _) ?_;intro w5 h5 b5 g5;have H5:=Lib.hid h5;have B5:=Lib.hid b5;have G5:=Lib.hid g5;clear h5 b5 g5) | (at_lookup;refine wp_seen_look rfl (.tmp 20) (.tmp 21) rfl w.heap.size (k+1) _ rfl H5.out x rfl HI.out _ HPUT.out ?_))
            go_ret
            exact ⟨by rw [HFA.out];rfl,HBR.out.trans B5.out⟩
          · by_cases hhi:480≤x
            · have HFA:Hid (apartL F=false):=Lib.hid (HBAD.out (by rw [HAP.out,HP.out,decide_eq_false h0,decide_eq_false (fun h=>by omega)];rfl))
              clear hm hci h0
              go_wp2_with (first | (at_lookup;refine wp_seen_look rfl (.tmp 16) (.tmp 17) rfl w.heap.size k _ rfl HSS.out x rfl HI.out 0 HC.out ?_) | (at_mapUpdate;refine wp_seen_put rfl (.tmp 16) (.tmp 17) (.tmp 19) rfl w.heap.size w.heap.size k _ rfl HSS.out x rfl HI.out _ rfl HCI.out (by omega) (Nat.le_refl _) ?_;intro w5 h5 b5 g5;have H5:=Lib.hid h5;have B5:=Lib.hid b5;have G5:=Lib.hid g5;clear h5 b5 g5) | (at_lookup;refine wp_seen_look rfl (.tmp 20) (.tmp 21) rfl w.heap.size (k+1) _ rfl H5.out x rfl HI.out _ HPUT.out ?_))
              go_ret
              exact ⟨by rw [HFA.out];rfl,HBR.out.trans B5.out⟩
            · have HP2:Hid (apartL (F.take (i+1))=true):=Lib.hid (by rw [HSN.out,HAP.out,HP.out,decide_eq_false hm,decide_eq_true (show 59≤x∧x≤479 by omega)];simp)
              have HM:=Lib.hid h0
              clear hm hci h0
              go_wp2_with (first | (at_lookup;refine wp_seen_look rfl (.tmp 16) (.tmp 17) rfl w.heap.size k _ rfl HSS.out x rfl HI.out 0 HC.out ?_) | (at_mapUpdate;refine wp_seen_put rfl (.tmp 16) (.tmp 17) (.tmp 19) rfl w.heap.size w.heap.size k _ rfl HSS.out x rfl HI.out _ rfl HCI.out (by omega) (Nat.le_refl _) ?_;intro w5 h5 b5 g5;have H5:=Lib.hid h5;have B5:=Lib.hid b5;have G5:=Lib.hid g5;clear h5 b5 g5) | (at_lookup;refine wp_seen_look rfl (.tmp 20) (.tmp 21) rfl w.heap.size (k+1) _ rfl H5.out x rfl HI.out _ HPUT.out ?_))
              have HS2:Hid (∃ k,k≤i+1∧SeenIs w5 w.heap.size k (fun p=>if p≠0∧p ∈ F.take (i+1) then 1 else 0)):=Lib.hid ⟨k+1,by omega,H5.out.congr (fun p=>by
                rw [HSN.out]
                by_cases hp:p=x
                · simp [hp,HM.out]
                · by_cases hp0:p=0
                  · simp [hp,hp0]
                    exact fun e=>HM.out e.symm
                  · simp [hp,hp0])⟩
              go_roundw
              case rel=>exact ⟨i+1,by go_num,by omega,HS2,Lib.hid (HBR.out.trans B5.out),Lib.hid (HA.out.grown G5.out (HRB.out _ rfl)),HP2⟩
              case measure=>simp [intOf];omega
    · obtain rfl:i=T:=by omega
      have HT:Hid (apartL F=true):=Lib.hid (by have:=HP.out;rwa [← HFL.out,List.take_length] at this)
      go_wp2_with fail
      go_ret
      exact ⟨by rw [HT.out];rfl,HBR.out⟩
end Go.Proofs.YtcefmpnijjcekaaGreatDoor
namespace Go.Proofs.YtcefmpnijjcekaaGreatDoor
open Go.RowKit
theorem take_getD' (zs:List Int) (n i:Nat) (h:i < n):(zs.take n).getD i 0=zs.getD i 0:=by
  rw [List.getD_eq_getElem?_getD,List.getD_eq_getElem?_getD,List.getElem?_take,if_pos h]
theorem drop_getD' (zs:List Int) (k i:Nat):(zs.drop k).getD i 0=zs.getD (k+i) 0:=by
  rw [List.getD_eq_getElem?_getD,List.getD_eq_getElem?_getD,List.getElem?_drop]
theorem getD_behind (zs:List Int) (i:Nat) (h:zs.length≤i):zs.getD i 0=0:=by
  rw [List.getD_eq_getElem?_getD,List.getElem?_eq_none h];rfl
theorem lay_zero {L zs:List Int} {off n j:Nat} (hfit:off+n≤L.length) (h0:off≤j→j < off+n→L.getD j 0=0) :
    (lay L off (zs.take n)).getD j 0=if off≤j∧j < off+n then zs.getD (j - off) 0 else L.getD j 0:=by
  have hl:(zs.take n).length=min n zs.length:=List.length_take
  rw [lay_get _ _ _ _ (by omega),hl]
  by_cases h:off≤j∧j < off+n
  · rw [if_pos h]
    by_cases h2:j < off+min n zs.length
    · rw [if_pos ⟨h.1,h2⟩,take_getD' _ _ _ (by omega)]
    · rw [if_neg (fun h'=>h2 h'.2),h0 h.1 h.2,getD_behind _ _ (by omega)]
  · rw [if_neg h,if_neg (by omega)]
theorem rep_getD (n j:Nat):(List.replicate n (0:Int)).getD j 0=0:=by
  rw [List.getD_eq_getElem?_getD,List.getElem?_replicate]
  split <;> rfl
theorem split_length (zs:List Int):(splitL zs).length=159:=by
  unfold splitL
  rw [fillL_length]
  exact List.length_replicate
theorem split_get (zs:List Int) (j:Nat):(splitL zs).getD j 0=if j < 34 then zs.getD j 0 else if j < 64 then 0 else if j < 154 then zs.getD (j - 30) 0 else 0:=by
  have e:splitL zs=lay (lay (lay (lay (lay (List.replicate 159 0) 0 (zs.take 4)) 4 ((zs.drop 4).take 30)) 64 (((zs.drop 4).drop 30).take 30)) 94 ((((zs.drop 4).drop 30).drop 30).take 30)) 124 (((((zs.drop 4).drop 30).drop 30).drop 30).take 30):=rfl
  rw [e]
  have l0:(List.replicate 159 (0:Int)).length=159:=List.length_replicate
  have g0:=lay_zero (L:=List.replicate 159 0) (zs:=zs) (off:=0) (n:=4) (j:=j) (by rw [l0];decide) (fun _ _=>rep_getD _ _)
  generalize hL1:lay (List.replicate 159 (0:Int)) 0 (zs.take 4)=L1 at *
  have l1:L1.length=159:=by rw [← hL1,lay_length,l0]
  rw [rep_getD] at g0
  have g1:=lay_zero (L:=L1) (zs:=zs.drop 4) (off:=4) (n:=30) (j:=j) (by rw [l1];decide) (fun h _=>by rw [g0,if_neg (by omega)])
  generalize hL2:lay L1 4 ((zs.drop 4).take 30)=L2 at *
  have l2:L2.length=159:=by rw [← hL2,lay_length,l1]
  rw [drop_getD',g0] at g1
  have g2:=lay_zero (L:=L2) (zs:=(zs.drop 4).drop 30) (off:=64) (n:=30) (j:=j) (by rw [l2];decide) (fun h _=>by rw [g1,if_neg (by omega),if_neg (by omega)])
  generalize hL3:lay L2 64 (((zs.drop 4).drop 30).take 30)=L3 at *
  have l3:L3.length=159:=by rw [← hL3,lay_length,l2]
  rw [drop_getD',drop_getD',g1] at g2
  have g3:=lay_zero (L:=L3) (zs:=((zs.drop 4).drop 30).drop 30) (off:=94) (n:=30) (j:=j) (by rw [l3];decide) (fun h _=>by rw [g2,if_neg (by omega),if_neg (by omega),if_neg (by omega)])
  generalize hL4:lay L3 94 ((((zs.drop 4).drop 30).drop 30).take 30)=L4 at *
  have l4:L4.length=159:=by rw [← hL4,lay_length,l3]
  rw [drop_getD',drop_getD',drop_getD',g2] at g3
  have g4:=lay_zero (L:=L4) (zs:=(((zs.drop 4).drop 30).drop 30).drop 30) (off:=124) (n:=30) (j:=j) (by rw [l4];decide) (fun h _=>by rw [g3,if_neg (by omega),if_neg (by omega),if_neg (by omega),if_neg (by omega)])
  rw [drop_getD',drop_getD',drop_getD',drop_getD',g3] at g4
  rw [g4]
  by_cases h1:j < 4
  · rw [if_neg (by omega),if_neg (by omega),if_neg (by omega),if_neg (by omega),if_pos (by omega),if_pos (by omega)]
    exact congrArg (fun k=>zs.getD k 0) (by omega)
  · by_cases h2:j < 34
    · rw [if_neg (by omega),if_neg (by omega),if_neg (by omega),if_pos (by omega),if_pos (by omega)]
      exact congrArg (fun k=>zs.getD k 0) (by omega)
    · by_cases h3:j < 64
      · rw [if_neg (by omega),if_neg (by omega),if_neg (by omega),if_neg (by omega),if_neg (by omega),if_neg (by omega),if_pos (by omega)]
      · by_cases h4:j < 94
        · rw [if_neg (by omega),if_neg (by omega),if_pos (by omega),if_neg (by omega),if_neg (by omega),if_pos (by omega)]
          exact congrArg (fun k=>zs.getD k 0) (by omega)
        · by_cases h5:j < 124
          · rw [if_neg (by omega),if_pos (by omega),if_neg (by omega),if_neg (by omega),if_pos (by omega)]
            exact congrArg (fun k=>zs.getD k 0) (by omega)
          · by_cases h6:j < 154
            · rw [if_pos (by omega),if_neg (by omega),if_neg (by omega),if_pos (by omega)]
              exact congrArg (fun k=>zs.getD k 0) (by omega)
            · rw [if_neg (by omega),if_neg (by omega),if_neg (by omega),if_neg (by omega),if_neg (by omega),if_neg (by omega),if_neg (by omega),if_neg (by omega)]
theorem part_of {L:List Int} {o n:Nat} (h:o+n≤L.length):(L.drop o).take n=(List.range n).map fun i=>L.getD (o+i) 0:=by
  apply List.ext_getElem?
  intro i
  by_cases hi:i < n
  · rw [List.getElem?_take,if_pos hi,List.getElem?_drop,List.getElem?_map,List.getElem?_range hi,List.getElem?_eq_getElem (by omega)]
    show some L[o+i]=some (L.getD (o+i) 0)
    rw [List.getD_eq_getElem?_getD,List.getElem?_eq_getElem (show o+i < L.length by omega)]
    rfl
  · rw [List.getElem?_eq_none (by rw [List.length_take];omega),List.getElem?_eq_none (by simp;omega)]
theorem split_page {zs:List Int} {i s:Nat} (h:i=0∧s=4∨i=2∧s=34∨i=3∧s=64∨i=4∧s=94):pageL (splitL zs) i=partP zs s 30:=by
  unfold pageL partP
  rw [part_of (by rw [split_length];omega)]
  apply List.map_congr_left
  intro k hk
  have hk':=List.mem_range.1 hk
  show (splitL zs).getD _ 0=zs.getD _ 0
  rw [split_get]
  rcases h with ⟨rfl,rfl⟩ | ⟨rfl,rfl⟩ | ⟨rfl,rfl⟩ | ⟨rfl,rfl⟩
  · rw [if_pos (by omega)]
  · rw [if_neg (by omega),if_neg (by omega),if_pos (by omega)];exact congrArg (fun k=>zs.getD k 0) (by omega)
  · rw [if_neg (by omega),if_neg (by omega),if_pos (by omega)];exact congrArg (fun k=>zs.getD k 0) (by omega)
  · rw [if_neg (by omega),if_neg (by omega),if_pos (by omega)];exact congrArg (fun k=>zs.getD k 0) (by omega)
theorem split_zero {zs:List Int} {j:Nat} (h:34≤j∧j < 64∨154≤j):(splitL zs).getD j 0=0:=by
  rw [split_get]
  rcases h with h | h
  · rw [if_neg (by omega),if_pos (by omega)]
  · rw [if_neg (by omega),if_neg (by omega),if_neg (by omega)]
def usedN (L:List Int) (i:Nat):Nat:=((List.range i).filter (needsB L)).length
theorem usedN_succ (L:List Int) (i:Nat):usedN L (i+1)=usedN L i+(needsB L i).toNat:=by
  unfold usedN
  rw [List.range_succ,List.filter_append,List.length_append]
  cases h:needsB L i <;> simp [List.filter,h]
theorem usedN_le (L:List Int) (i:Nat):usedN L i≤i:=by
  unfold usedN
  have:=List.length_filter_le (needsB L) (List.range i)
  rwa [List.length_range] at this
theorem split_needs (zs:List Int):needsB (splitL zs) 0=someP zs 4 30∧needsB (splitL zs) 1=doubleB zs∧needsB (splitL zs) 2=someP zs 34 30∧needsB (splitL zs) 3=someP zs 64 30∧needsB (splitL zs) 4=someP zs 94 30:=by
  have p0:=split_page (zs:=zs) (i:=0) (s:=4) (by omega)
  have p2:=split_page (zs:=zs) (i:=2) (s:=34) (by omega)
  have p3:=split_page (zs:=zs) (i:=3) (s:=64) (by omega)
  have p4:=split_page (zs:=zs) (i:=4) (s:=94) (by omega)
  unfold needsB
  rw [p0,p2,p3,p4]
  refine ⟨rfl,?_,rfl,rfl,rfl⟩
  rw [if_pos rfl]
  unfold doubleB underN
  show ((someP zs 34 30)||(someP zs 64 30||(someP zs 94 30||false)))=_
  cases someP zs 34 30 <;> cases someP zs 64 30 <;> cases someP zs 94 30 <;> rfl
theorem usedN_need (zs:List Int):usedN (splitL zs) 5=needP zs:=by
  obtain ⟨h0,h1,h2,h3,h4⟩:=split_needs zs
  rw [usedN_succ,usedN_succ,usedN_succ,usedN_succ,usedN_succ,h0,h1,h2,h3,h4]
  unfold needP doubleB underN
  cases someP zs 4 30 <;> cases someP zs 34 30 <;> cases someP zs 64 30 <;> cases someP zs 94 30 <;> rfl
theorem lists_one {w:World} {ao:Option Addr} {len cap:Nat} {zs:List Int} (h:IArg w ao len cap zs) (T:TypeId):ListsIn (w.alloc (.cells #[.slice ao len cap] T)) w.heap.size 0 [zs]:=by
  intro j ys hj
  match j,hj with
  | 0,hj=>
    cases hj
    refine ⟨ao,len,cap,?_,h.later ((Below.refl _ _).alloc (Nat.le_refl _) _)⟩
    rw [World.cell?_alloc_new]
    rfl
  | j+1,hj=>simp at hj
theorem chart_of_own {base g:Nat} {w0 w:World} {L:List Int} (h:OwnV base w0 g (ints L) w) (hl:L.length=159):ChartAt w g L:=⟨hl,own_range h⟩
set_option maxRecDepth 100000 in
set_option maxHeartbeats 6400000 in
theorem Need_any (ao:Option Addr) (len cap:Nat) (zs:List Int) (w:World) (hA:IArg w ao len cap zs):Calls Tryz.prog 103 #[.slice ao len cap] w fun e w'=>e=.returned (.tuple #[.int .i64 (needOut zs),.int .i64 (needErr zs)])∧Below w.heap.size w w':=by
  have hlen:=hA.len
  by_cases h96:96 < len
  · have HE:Hid (needErr zs=1∧needOut zs=0):=Lib.hid (by
      unfold needErr needOut ptrsOk
      rw [decide_eq_false (by omega)]
      exact ⟨rfl,rfl⟩)
    have i1:(96:Int) < (len:Int):=by omega
    clear hA hlen
    go_enter Tryz.func103,Tryz.ntmps103
    go_wp2_with fail
    go_ret2
    exact ⟨by rw [HE.out.1,HE.out.2];rfl,Below.refl _ _⟩
  · have i1:¬ (96:Int) < (len:Int):=by omega
    have cA:=apart_any w.heap.size 0 1 1 [zs] _ rfl (lists_one hA 31) (by show zs.length+0≤10000;omega) (by decide)
    rw [show [zs].flatten=zs from by simp] at cA
    have HP:Hid (ptrsOk zs=apartL zs):=Lib.hid (by unfold ptrsOk;rw [decide_eq_true (by omega)];rfl)
    have HA:=Lib.hid hA
    clear hA hlen
    cases hap:apartL zs with
    | false=>
      have HE:Hid (needErr zs=1∧needOut zs=0):=Lib.hid (by
        unfold needErr needOut
        rw [HP.out,hap]
        exact ⟨rfl,rfl⟩)
      rw [hap] at cA
      clear hap
      go_enter Tryz.func103,Tryz.ntmps103
      go_wp2_with (go_at_call 159;refine cA.mono ?_;rintro e w2 ⟨rfl,hb⟩;have HB:=Lib.hid hb;clear hb)
      go_ret2
      exact ⟨by rw [HE.out.1,HE.out.2];rfl,((Below.refl _ _).alloc (Nat.le_refl _) _).trans (HB.out.mono (by simp))⟩
    | true=>
      have HE:Hid (needErr zs=0∧needOut zs=(needP zs:Int)):=Lib.hid (by
        unfold needErr needOut
        rw [HP.out,hap]
        exact ⟨rfl,rfl⟩)
      rw [hap] at cA
      clear hap
      have HS:Hid (∀ W,Below w.heap.size w W→Calls Tryz.prog 160 #[.slice ao len cap] W fun e w'=>∃ g,e=.returned (.pointer (some ⟨g,0,none⟩))∧OwnV W.heap.size W g (ints (splitL zs)) w'):=Lib.hid (fun W hW=>split_any ao len cap zs W (HA.out.later hW))
      go_enter Tryz.func103,Tryz.ntmps103
      go_wp2_with (first | (go_at_call 159;refine cA.mono ?_;rintro e w2 ⟨rfl,hb⟩;have HB:=Lib.hid (((Below.refl _ _).alloc (Nat.le_refl _) _).trans (hb.mono (by simp)));clear hb) | (go_at_call 160;refine (HS.out _ HB.out).mono ?_;rintro e w3 ⟨g,rfl,ho⟩;have HC:=Lib.hid (chart_of_own ho (split_length zs));have HB3:=Lib.hid (HB.out.trans (ho.2.2.2.mono HB.out.size));clear ho))
      go_loopw [4,18] (fun nv iv wr=>∃ i:Nat,iv=.int .i64 (i:Int)∧nv=.int .i64 ((usedN (splitL zs) i:Nat):Int)∧i≤5∧Hid (Below w.heap.size w wr)∧Hid (ChartAt wr g (splitL zs))) (fun _ iv _=>5 - (intOf iv).toNat)
      case atStart=>exact ⟨0,rfl,rfl,Nat.zero_le _,HB3,HC⟩
      case round=>
        obtain ⟨i,rfl,rfl,hi,HBR,HCR⟩:=hrel
        by_cases hlt:i < 5
        · have cN:=needs_any HCR.out hlt
          have i5:(i:Int) < 5:=by omega
          have hu:=usedN_succ (splitL zs) i
          have hle:=usedN_le (splitL zs) i
          cases hn:needsB (splitL zs) i with
          | false=>
            rw [hn] at cN hu
            have HU:Hid (usedN (splitL zs) (i+1)=usedN (splitL zs) i):=Lib.hid hu
            clear hn hu hle
            go_wp2_with (go_at_call 161;refine cN.mono ?_;rintro e w5 ⟨rfl,b5⟩;have B5:=Lib.hid b5;clear b5)
            go_roundw
            case rel=>exact ⟨i+1,by go_num,by rw [HU.out],by omega,Lib.hid (HBR.out.trans (B5.out.mono HBR.out.size)),Lib.hid (HCR.out.later B5.out)⟩
            case measure=>simp [intOf];omega
          | true=>
            rw [hn] at cN hu
            have HU:Hid (usedN (splitL zs) (i+1)=usedN (splitL zs) i+1):=Lib.hid hu
            have s1:wrap64 (((usedN (splitL zs) i:Nat):Int)+1)=((usedN (splitL zs) (i+1):Nat):Int):=by rw [HU.out];unfold wrap64;omega
            clear hn hu hle
            go_wp2_with (go_at_call 161;refine cN.mono ?_;rintro e w5 ⟨rfl,b5⟩;have B5:=Lib.hid b5;clear b5)
            go_roundw
            case rel=>exact ⟨i+1,by go_num,by rw [s1],by omega,Lib.hid (HBR.out.trans (B5.out.mono HBR.out.size)),Lib.hid (HCR.out.later B5.out)⟩
            case measure=>simp [intOf];omega
        · obtain rfl:i=5:=by omega
          have HU:Hid (usedN (splitL zs) 5=needP zs):=Lib.hid (usedN_need zs)
          go_wp2_with fail
          go_ret2
          exact ⟨by rw [HE.out.1,HE.out.2,← HU.out];rfl,HBR.out⟩
end Go.Proofs.YtcefmpnijjcekaaGreatDoor
