/- Proved here: what the landed image's free, blocksOf and pick answer. The conditions stand at each theorem. Said here: when bytes are a sealed block, in plain words. No conditions. Proved here: what the landed image's end, Super, Free, Data and SetData answer of a volume. The conditions stand at each theorem. Said here: maps of pointers in plain words: when pointers are .. -/
import Derived.Test.YtcefmpnijjcekaaGreatDoorTk9
import Derived.Test.YtcefmpnijjcekaaGreatDoorTk11
import Derived.Test.YtcefmpnijjcekaaGreatDoorTk1
import Derived.Test.YtcefmpnijjcekaaGreatDoorTk8
import Derived.Test.YtcefmpnijjcekaaGreatDoorTk0
import Derived.Deep.QuietTactic
import Derived.BigQuiet
import Derived.StillTailTactics
set_option linter.unusedVariables false
set_option linter.unusedSimpArgs false
namespace Go.Proofs.YtcefmpnijjcekaaGreatDoor
open Go.RowKit
def freeOf (f:List Int) (hi:Nat):Int:=(hi:Int) - 59 - ((cnt (flag f) hi:Nat) - (cnt (flag f) 59:Nat))
def runBlks (rs:List (Nat × Nat)):List Int:=rs.flatMap fun r=>(List.range r.2).map fun (i:Nat)=>(r.1:Int)+(i:Int)
def pickL (f:List Int) (n hi:Nat):List Int:=
  if n=0 then [] else match tightGap (downOut f 59 hi) n with
    | some p=>runBlks [(p.1,n)]
    | none=>runBlks (someOf (downOut f 59 hi) n)
def pickE (f:List Int) (n hi:Nat):Int:=if freeOf f hi < (n:Int) then 6 else 0
theorem cnt60 {f:List Int} {k:Nat} (hl:f.length=60) (hk:k≤480):cntOut f k=cnt (flag f) k∧cntErr 60 k=0:=by
  have h:cntErr 60 k=0:=by unfold cntErr;rw [if_pos rfl,if_neg (by omega)]
  refine ⟨?_,h⟩
  unfold cntOut
  rw [hl,h,if_pos rfl]
  rfl
set_option maxHeartbeats 800000 in
theorem ifree_any (ao:Option Addr) (cap:Nat) (f:List Int) (hi:Nat) (w:World) (hA:Arg w ao 60 cap f) (h0:59≤hi) (h1:hi≤480) :
    Calls Tryz.prog 36 #[.slice ao 60 cap,.int .i64 hi] w (Tells w.heap.size w (.int .i64 (freeOf f hi))):=by
  obtain ⟨x,hx⟩:∃ x:Nat,cnt (flag f) hi=x:=⟨_,rfl⟩
  obtain ⟨y,hy⟩:∃ y:Nat,cnt (flag f) 59=y:=⟨_,rfl⟩
  have hx1:x≤hi:=by rw [← hx];exact cnt_le _ _
  have hy1:y≤59:=by rw [← hy];exact cnt_le _ _
  have HF:Hid (freeOf f hi=(hi:Int) - 59 - ((x:Int) - (y:Int))):=Lib.hid (by unfold freeOf;rw [hx,hy])
  have HC:Hid (∀ W (k:Nat) (z:Nat),Below w.heap.size w W→k≤480→cnt (flag f) k=z→Calls Tryz.prog 80 #[.slice ao 60 cap,.int .i64 k] W (Tells W.heap.size W (.tuple #[.int .i64 z,.int .i64 0]))):=Lib.hid (fun W k z hW hk hz=>by
    have h:=xCount_any ao 60 cap f k W (hA.later hW) (by omega)
    rw [(cnt60 hA.1.1 hk).1,(cnt60 hA.1.1 hk).2,hz] at h
    exact h)
  have c1:=HC.out w hi x (Below.refl _ _) h1 hx
  have C2:Hid (∀ W,Below w.heap.size w W→Calls Tryz.prog 80 #[.slice ao 60 cap,.int .i64 59] W (Tells W.heap.size W (.tuple #[.int .i64 y,.int .i64 0]))):=Lib.hid (fun W hW=>HC.out W 59 y hW (by decide) hy)
  clear hA hx hy HC
  go_enter Tryz.func36,Tryz.ntmps36
  go_wp2_with (first
    | (go_at_call 80;first | ((with_reducible refine c1.mono ?_);rintro e w2 ⟨rfl,hb⟩;have HB2:=Lib.hid hb;clear hb) | (refine (C2.out _ HB2.out).mono ?_;rintro e w3 ⟨rfl,hb⟩;have HB3:=Lib.hid (HB2.out.trans (hb.mono HB2.out.size));clear hb))
    | (go_at_call 79;refine (mustI_any _ _).mono ?_;rintro e w4 ⟨rfl,rfl⟩))
  go_ret
  exact ⟨by rw [HF.out];rfl,HB3.out⟩
theorem runBlks_snoc (rs:List (Nat × Nat)) (r:Nat × Nat):runBlks (rs ++ [r])=runBlks rs ++ (List.range r.2).map fun (i:Nat)=>(r.1:Int)+(i:Int):=by
  unfold runBlks
  rw [List.flatMap_append]
  simp
set_option maxRecDepth 100000 in
set_option maxHeartbeats 1600000 in
theorem blocksOf_any (ro:Option Addr) (m rcap:Nat) (xs:List Value) (rs:List (Nat × Nat)) (w:World) (hR:Vals w ro m xs) (hS:Stands xs rs) (hok:okRuns rs) (hm:m≤1000) (ht:(runBlks rs).length≤10000) :
    Calls Tryz.prog 74 #[.slice ro m rcap] w fun e w'=>∃ v,e=.returned v∧FreshI w' w.heap.size v (runBlks rs)∧Below w.heap.size w w':=by
  have hml:rs.length=m:=by rw [← hS.1,hR.1]
  have HML:=Lib.hid hml
  have HR:=Lib.hid hR
  have HS:=Lib.hid hS
  have HOK:=Lib.hid hok
  have HLB:Hid (∀ i,(runBlks (rs.take i)).length≤10000):=Lib.hid (fun i=>by
    have h:(runBlks rs).length=(runBlks (rs.take i)).length+(runBlks (rs.drop i)).length:=by
      conv=>lhs;rw [← List.take_append_drop i rs]
      unfold runBlks
      rw [List.flatMap_append,List.length_append]
    omega)
  clear ht
  clear hml hR hS hok
  go_enter Tryz.func74,Tryz.ntmps74
  go_wp2_with fail
  have HR0:Hid (∃ acc,acc=runBlks (rs.take 0)∧w.ownsRow w.heap.size 3 1 (.slice none 0 0) acc.length (ints acc)∧Below w.heap.size w w):=Lib.hid ⟨[],by simp [runBlks],World.ownsRow_nil w w.heap.size 3 1,Below.refl _ _⟩
  go_loopw [3,12] (fun vv iv wr=>∃ i:Nat,i≤m∧iv=.int .i64 i∧Hid (∃ acc,acc=runBlks (rs.take i)∧wr.ownsRow w.heap.size 3 1 vv acc.length (ints acc)∧Below w.heap.size w wr)) (fun _ iv _=>m - (intOf iv).toNat)
  case atStart=>exact ⟨0,Nat.zero_le _,rfl,HR0⟩
  case round=>
    obtain ⟨i,hi,rfl,HJ⟩:=hrel
    by_cases hlt:i < m
    · obtain ⟨acc0,ha0,ho0,hbw⟩:=HJ.out
      obtain ⟨⟨a,b⟩,hr⟩:∃ r,rs[i]?=some r:=⟨_,List.getElem?_eq_getElem (by rw [HML.out];exact hlt)⟩
      obtain ⟨hb1,hab⟩:=HOK.out _ (List.mem_of_getElem? hr)
      have hb1:1≤b:=hb1
      have hab:a+b≤480:=hab
      obtain ⟨v,hv⟩:∃ v,xs[i]?=some v:=⟨_,List.getElem?_eq_getElem (by rw [HR.out.1];exact hlt)⟩
      obtain ⟨x,y,rfl,hx,hy⟩:=HS.out.2 i v (a,b) hv hr
      obtain ⟨rb,roff,rfl,hrc⟩:=HR.out.2.2.resolve_left (by omega)
      have hcell:=cell_later hbw (hrc i _ hv)
      have HT:Hid (runBlks (rs.take (i+1))=runBlks (rs.take i) ++ (List.range b).map fun (j:Nat)=>(a:Int)+(j:Int)):=Lib.hid (by
        rw [List.take_add_one,hr]
        exact runBlks_snoc _ _)
      have hl1:=HLB.out (i+1)
      rw [HT.out,List.length_append,List.length_map,List.length_range] at hl1
      obtain ⟨B0,hB0⟩:∃ B0,runBlks (rs.take i)=B0:=⟨_,rfl⟩
      rw [hB0] at HT hl1 ha0
      have HN:Hid (∃ acc,acc=B0 ++ (List.range 0).map (fun (j:Nat)=>(a:Int)+(j:Int))∧wr.ownsRow w.heap.size 3 1 _ acc.length (ints acc)∧Below w.heap.size w wr):=Lib.hid ⟨acc0,by rw [ha0];simp,ho0,hbw⟩
      have cP:=Parts_any x y a b wr hx hy (by omega) (by omega) (by omega)
      have i2:(i:Int) < m:=by omega
      clear HJ hbw hr hv hx hy hrc HR0 ha0 ho0 hB0
      go_wp2_with (first | (go_at_call 98;refine cP.mono ?_;rintro e w' ⟨rfl,rfl⟩) | (go_at_call 79;refine (mustI_any _ _).mono ?_;rintro e w' ⟨rfl,rfl⟩))
      clear cP hcell
      go_loopw [3,25] (fun vv jv wr=>∃ j:Nat,j≤b∧jv=.int .i64 j∧Hid (∃ acc,acc=B0 ++ (List.range j).map (fun (j:Nat)=>(a:Int)+(j:Int))∧wr.ownsRow w.heap.size 3 1 vv acc.length (ints acc)∧Below w.heap.size w wr)) (fun _ jv _=>b - (intOf jv).toNat)
      case atStart=>exact ⟨0,Nat.zero_le _,rfl,HN⟩
      case round=>
        obtain ⟨j,hj,rfl,HJ⟩:=hrel
        obtain ⟨acc,ha,ho,hbw⟩:=HJ.out
        by_cases hlt2:j < b
        · have hal:acc.length=B0.length+j:=by rw [ha];simp
          have HA2:Hid (acc ++ [(a:Int)+(j:Int)]=B0 ++ (List.range (j+1)).map (fun (j:Nat)=>(a:Int)+(j:Int))):=Lib.hid (by rw [ha,List.range_succ,List.map_append];simp)
          have HO:=Lib.hid ho
          have HW:=Lib.hid hbw
          have HS2:Hid (w.heap.size≤wr.heap.size+1):=Lib.hid (by have:=hbw.size;omega)
          have hl2:acc.length≤100000:=by omega
          have j2:(j:Int) < b:=by omega
          clear HJ ha ho hbw hal
          go_wp2_with (at_builtin;refine wp_append_one elemI rfl (.tmp 28) (.tmp 32) rfl w.heap.size acc.length _ _ rfl (HO.out.alloc _) ⟨wr.heap.size,0,none⟩ 1 _ rfl (one_cell_new _ _ _) rfl rfl hl2 (by simpa using HS2.out) ?_;intro v1 w1' hown1 hb1;have HO1:=Lib.hid hown1;have HB2:=Lib.hid hb1;clear hown1 hb1)
          go_roundw
          case rel=>exact ⟨j+1,by omega,by go_num,Lib.hid ⟨acc ++ [(a:Int)+(j:Int)],HA2.out,by rw [List.length_append,ints_append];exact HO1.out,(HW.out.alloc (by have:=HW.out.size;exact this) _).trans HB2.out⟩⟩
          case measure=>simp [intOf];omega
        · have hjb:j=b:=by omega
          subst hjb
          have HB3:Hid (∃ acc,acc=runBlks (rs.take (i+1))∧wr.ownsRow w.heap.size 3 1 _ acc.length (ints acc)∧Below w.heap.size w wr):=Lib.hid ⟨acc,by rw [HT.out];exact ha,ho,hbw⟩
          clear HJ ha ho hbw
          go_wp2_with fail
          go_roundw
          case rel=>exact ⟨i+1,by omega,by go_num,HB3⟩
          case measure=>simp [intOf];omega
    · have him:i=m:=by omega
      subst him
      obtain ⟨acc,ha,ho,hbw⟩:=HJ.out
      have hfull:rs.take i=rs:=List.take_of_length_le (by rw [HML.out];exact Nat.le_refl _)
      rw [hfull] at ha
      have hb480:∀ z ∈ runBlks rs,I64 z:=fun z hz=>by
        unfold runBlks at hz
        obtain ⟨r,hr,hz⟩:=List.mem_flatMap.1 hz
        obtain ⟨k,hk,rfl⟩:=List.mem_map.1 hz
        have h2:=(HOK.out r hr).2
        have h3:=List.mem_range.1 hk
        unfold I64
        omega
      have hlb:=HLB.out i
      rw [hfull] at hlb
      have HF:=Lib.hid (fresh_of_ints ho (by rw [ha];exact hb480) (by rw [ha];omega))
      have HW:=Lib.hid hbw
      have HAE:=Lib.hid ha
      clear HJ ha ho hbw hfull hb480 HR0 hlb
      go_wp2_with fail
      go_ret
      exact ⟨_,rfl,by rw [← HAE.out];exact HF.out,HW.out⟩
theorem runBlks_length (rs:List (Nat × Nat)):(runBlks rs).length=sumG rs:=by
  induction rs with
  | nil=>rfl
  | cons r t ih=>
    show ((List.range r.2).map _ ++ runBlks t).length=r.2+sumG t
    rw [List.length_append,List.length_map,List.length_range,ih]
theorem free_sum {f:List Int} {hi:Nat} (hl:f.length=60) (h0:59≤hi) (h1:hi≤480):(sumG (downOut f 59 hi):Int)=freeOf f hi:=by
  have hd:downErr f.length 59 hi=0:=by unfold downErr;rw [hl,if_pos rfl,if_neg (by omega)]
  obtain ⟨_,_,h,_⟩:=all_sum hd
  have e1:=(cnt60 (k:=hi) hl h1).1
  have e2:=(cnt60 (k:=59) hl (by decide)).1
  have e3:((59:Nat):Int)=59:=rfl
  rw [e3] at e2
  rw [e1,e2] at h
  unfold freeOf
  omega
theorem cnt_mono59 (g:Nat→Bool) {hi:Nat} (h:59≤hi):cnt g 59≤cnt g hi:=by
  obtain ⟨d,rfl⟩:∃ d,hi=59+d:=⟨hi - 59,by omega⟩
  clear h
  induction d with
  | zero=>exact Nat.le_refl _
  | succ d ih=>
    show _≤cnt g (59+d)+(if g (59+d) then 1 else 0)
    omega
theorem gap60 {n hi:Nat} (h0:59≤hi) (h1:hi≤480) (h2:1≤n) (h3:n≤480):gapErr 60 n 59 hi=0:=by
  have hd:downErr 60 59 hi=0:=by unfold downErr;rw [if_pos rfl,if_neg (by omega)]
  unfold gapErr
  rw [if_neg (by rw [hd];decide),if_neg (by omega)]
theorem some_bound {f:List Int} {n hi:Nat}:okRuns (someOf (downOut f 59 hi) n):=fun p hp=>by
  obtain ⟨q,hq,e,h1,h2⟩:=some_mem (fun q hq=>(down_bound q hq).2.1) p hp
  have:=(down_bound q hq).1
  omega
def PickDone (base:Nat) (w0:World) (f:List Int) (n hi:Nat) (e:Ending) (w':World):Prop:=
  ∃ v,e=.returned (.tuple #[v,.int .i64 (pickE f n hi)])∧FreshI w' base v (if pickE f n hi=0 then pickL f n hi else [])∧Below base w0 w'
set_option maxRecDepth 100000 in
set_option maxHeartbeats 1600000 in
theorem ipick_any (ao:Option Addr) (cap:Nat) (f:List Int) (n hi:Nat) (w:World) (hA:Arg w ao 60 cap f) (h0:59≤hi) (h1:hi≤480) (hn:n≤9223372036854775807) :
    Calls Tryz.prog 30 #[.slice ao 60 cap,.int .i64 n,.int .i64 hi] w (PickDone w.heap.size w f n hi):=by
  have cF:=ifree_any ao cap f hi w hA h0 h1
  obtain ⟨F,hF⟩:∃ F,freeOf f hi=F:=⟨_,rfl⟩
  rw [hF] at cF
  by_cases hgt:F < (n:Int)
  · have HE:Hid (pickE f n hi=6):=Lib.hid (by unfold pickE;rw [hF,if_pos hgt])
    clear hA hF
    go_enter Tryz.func30,Tryz.ntmps30
    go_wp2_with (go_at_call 36;refine cF.mono ?_;rintro e w2 ⟨rfl,hb⟩;have HB2:=Lib.hid hb;clear hb)
    go_ret2
    exact ⟨_,by rw [HE.out];rfl,by rw [HE.out];exact FreshI.nil _ _,HB2.out⟩
  · have HE:Hid (pickE f n hi=0):=Lib.hid (by unfold pickE;rw [hF,if_neg hgt])
    by_cases hz:n=0
    · subst hz
      have HL:Hid (pickL f 0 hi=[]):=Lib.hid (by unfold pickL;rw [if_pos rfl])
      have hgt2:¬ F < 0:=by simpa using hgt
      have hgt3:decide (F < 0)=false:=decide_eq_false hgt2
      clear hA hF
      go_enter Tryz.func30,Tryz.ntmps30
      go_wp2_with (go_at_call 36;refine cF.mono ?_;rintro e w2 ⟨rfl,hb⟩;have HB2:=Lib.hid hb;clear hb)
      go_ret2
      exact ⟨_,by rw [HE.out];rfl,by rw [HE.out,if_pos rfl,HL.out];exact FreshI.nil _ _,HB2.out⟩
    · have hsum:=free_sum hA.1.1 h0 h1
      rw [hF] at hsum
      have hF480:F≤421:=by
        rw [← hF]
        unfold freeOf
        have:=cnt_le (fun i=>!flag f i) 59
        have h3:=cnt_mono59 (flag f) h0
        omega
      have hg:=gap60 (n:=n) h0 h1 (by omega) (by omega)
      have HT:Hid (∀ W,Below w.heap.size w W→Calls Tryz.prog 73 #[.slice ao 60 cap,.int .i64 n,.int .i64 59,.int .i64 hi] W (HandedRun W.heap.size W (pickOut 0 (tightGap (downOut f 59 hi) n) n) (pickErr 0 (tightGap (downOut f 59 hi) n)))):=Lib.hid (fun W hW=>by
        have h:=cTight_any ao 60 cap f n 59 hi W (hA.later hW) (by omega) (by decide) (by omega)
        rw [hg] at h
        exact h)
      cases ht:tightGap (downOut f 59 hi) n with
      | some p=>
        have hp:=(tight_mem ht)
        have hpb:=down_bound p hp.1
        have HL:Hid (pickL f n hi=runBlks [(p.1,n)]):=Lib.hid (by unfold pickL;rw [if_neg hz,ht])
        rw [ht] at HT
        have e1:pickOut 0 (some p) n=(p.1,n):=rfl
        have e2:pickErr 0 (some p)=0:=rfl
        rw [e1,e2] at HT
        have HOK:Hid (okRuns [(p.1,n)]):=Lib.hid (fun r hr=>by rw [List.mem_singleton.1 hr];exact ⟨by show 1≤n;omega,by show p.1+n≤480;omega⟩)
        have HLEN:Hid ((runBlks [(p.1,n)]).length≤10000):=Lib.hid (by rw [runBlks_length];show n+0≤10000;omega)
        have hne:((n:Int) == 0)=false:=by simpa using hz
        clear hA hF hsum hg ht hp hpb e1 e2 hz
        go_enter Tryz.func30,Tryz.ntmps30
        go_wp2_with (first
          | (go_at_call 36;refine cF.mono ?_;rintro e w2 ⟨rfl,hb⟩;have HB2:=Lib.hid hb;clear hb)
          | (go_at_call 73;refine (HT.out _ HB2.out).mono ?_;rintro e w3 ⟨x,y,rfl,hx,hy,hb⟩;have HB3:=Lib.hid (HB2.out.trans (hb.mono HB2.out.size));have HX:=Lib.hid (And.intro hx hy);clear hb hx hy)
          | (go_at_call 74
             have HV:Hid (Vals (w3.alloc (.cells #[.complex .f64 x y] 97)) (some ⟨w3.heap.size,0,none⟩) 1 [.complex .f64 x y]):=Lib.hid ⟨rfl,by decide,Or.inr ⟨w3.heap.size,0,rfl,fun j v hj=>by
               match j,hj with
               | 0,hj=>cases Option.some.inj hj;simp
               | j+1,hj=>simp at hj⟩⟩
             refine (blocksOf_any (some ⟨w3.heap.size,0,none⟩) 1 1 _ [(p.1,n)] _ HV.out ⟨rfl,fun j v q hj hq=>?_⟩ HOK.out (by decide) HLEN.out).mono ?_
             · match j,hj,hq with
               | 0,hj,hq=>cases Option.some.inj hj;cases Option.some.inj hq;exact ⟨x,y,rfl,HX.out.1,HX.out.2⟩
               | j+1,hj,hq=>simp at hj
             rintro e w4 ⟨v4,rfl,hf4,hb4⟩
             have HF4:=Lib.hid hf4
             have HB4:=Lib.hid (HB3.out.trans (((Below.refl w3.heap.size w3).alloc (Nat.le_refl _) (.cells #[.complex .f64 x y] 97)).trans (hb4.mono (by simp)) |>.mono HB3.out.size))
             clear hf4 hb4))
        go_ret2
        refine ⟨v4,by rw [HE.out];rfl,by rw [HE.out,if_pos rfl,HL.out];exact HF4.out.mono (by have:=HB3.out.size;simp;omega),HB4.out⟩
      | none=>
        have HL:Hid (pickL f n hi=runBlks (someOf (downOut f 59 hi) n)):=Lib.hid (by unfold pickL;rw [if_neg hz,ht])
        rw [ht] at HT
        have e2:pickErr 0 (none:Option (Nat × Nat))=6:=rfl
        rw [e2] at HT
        have hle:n≤sumG (downOut f 59 hi):=by omega
        have HSM:Hid (∀ W,Below w.heap.size w W→Calls Tryz.prog 76 #[.slice ao 60 cap,.int .i64 n,.int .i64 59,.int .i64 hi] W (HandedRuns W.heap.size W (someOf (downOut f 59 hi) n) 0)):=Lib.hid (fun W hW=>by
          have h:=cSome_any ao 60 cap f n 59 hi W (hA.later hW) (by omega) (by decide) (by omega)
          rw [hg,show ((n:Int)).toNat=n by omega] at h
          have e3:someErr 0 (downOut f 59 hi) n=0:=by unfold someErr;rw [if_pos rfl,if_neg (by omega)]
          have e4:someOut 0 (downOut f 59 hi) n=someOf (downOut f 59 hi) n:=by unfold someOut;rw [if_pos ⟨rfl,hle⟩]
          rw [e3,e4] at h
          exact h)
        have HLEN:Hid ((runBlks (someOf (downOut f 59 hi) n)).length=n):=Lib.hid (by rw [runBlks_length,some_sum hle])
        have HOK:Hid (okRuns (someOf (downOut f 59 hi) n)):=Lib.hid some_bound
        have HRL:Hid ((someOf (downOut f 59 hi) n).length≤1000):=Lib.hid (by
          have h1:∀ l:List (Nat × Nat),(∀ q ∈ l,1≤q.2)→l.length≤sumG l:=fun l=>by
            induction l with
            | nil=>intro _;exact Nat.le_refl _
            | cons q t ih=>intro h;have:=ih (fun x hx=>h x (List.mem_cons_of_mem _ hx));have:=h q (by simp);show t.length+1≤q.2+sumG t;omega
          have h2:=h1 _ (fun q hq=>(HOK.out q hq).1)
          rw [some_sum hle] at h2
          omega)
        have hne:((n:Int) == 0)=false:=by simpa using hz
        clear hA hF hsum hg ht e2 hz hle
        generalize someOf (downOut f 59 hi) n=rs at *
        go_enter Tryz.func30,Tryz.ntmps30
        go_wp2_with (first
          | (go_at_call 36;refine cF.mono ?_;rintro e w2 ⟨rfl,hb⟩;have HB2:=Lib.hid hb;clear hb)
          | (go_at_call 73;refine (HT.out _ HB2.out).mono ?_;rintro e w3 ⟨x,y,rfl,hx,hy,hb⟩;have HB3:=Lib.hid (HB2.out.trans (hb.mono HB2.out.size));clear hb hx hy)
          | (go_at_call 76;refine (HSM.out _ HB3.out).mono ?_;rintro e w5 ⟨v5,xs5,rfl,hf5,hs5,hb5⟩;have HB5:=Lib.hid (HB3.out.trans (hb5.mono HB3.out.size));have HS5:=Lib.hid hs5;obtain ⟨ao5,c5,rfl,hv5,hc5,_⟩:=hf5;have HV5:=Lib.hid hv5;have HX5:Hid (xs5.length≤1000):=Lib.hid (by rw [hs5.1];exact HRL.out);clear hb5 hs5 hv5 hc5)
          | (go_at_call 75;refine (mustCs_any _ _).mono ?_;rintro e w6 ⟨rfl,rfl⟩)
          | (go_at_call 74
             refine (blocksOf_any ao5 _ c5 xs5 rs _ HV5.out HS5.out HOK.out HX5.out (by rw [HLEN.out];omega)).mono ?_
             rintro e w4 ⟨v4,rfl,hf4,hb4⟩
             have HF4:=Lib.hid hf4
             have HB4:=Lib.hid (HB5.out.trans (hb4.mono HB5.out.size))
             clear hf4 hb4))
        go_ret2
        refine ⟨v4,by rw [HE.out];rfl,by rw [HE.out,if_pos rfl,HL.out];exact HF4.out.mono HB5.out.size,HB4.out⟩
end Go.Proofs.YtcefmpnijjcekaaGreatDoor
namespace Go.Proofs.YtcefmpnijjcekaaGreatDoor
def sealedB (zs:List Int):Bool:=decide (zs.length=64∧sealOf sumS zs=zs)
end Go.Proofs.YtcefmpnijjcekaaGreatDoor
namespace Go.Proofs.YtcefmpnijjcekaaGreatDoor
open Go.RowKit
structure VolOk (B:List (List Int)):Prop where
  n64:64≤B.length∧B.length≤480
  sup:isSup (B.getD 0 [])=true
  siz:(supAt B).a=(B.length:Int)
  head:isHead (B.getD 1 [])=true
  sld:sealedB (B.getD 2 [])=true
  nodes:∀ n,n < 32→isNode (halfAt B n)=true
theorem VolOk.super {B:List (List Int)} (h:VolOk B):(supAt B).sound=true:=by
  have hs:=h.sup
  unfold isSup at hs
  have:supAt B=readSup (B.getD 0 []):=by unfold supAt getSup;rw [if_pos h.sup]
  rw [this]
  simp only [Bool.and_eq_true] at hs
  exact hs.2.1
theorem VolOk.ends {B:List (List Int)} (h:VolOk B):∃ hi:Nat,endOf (supAt B)=hi∧59≤hi∧hi≤B.length:=by
  have hs:=of_decide_eq_true h.super
  have hz:=h.siz
  have h64:=h.n64
  refine ⟨(endOf (supAt B)).toNat,?_,?_,?_⟩ <;> unfold endOf <;> split <;> omega
set_option maxHeartbeats 1600000 in
theorem end_any {w:World} {p q g n cap:Nat} {L:List (List Int)} (hp:w.cell? ⟨p,q,none⟩=some (.slice (some ⟨g,0,none⟩) n cap)) (hR:Rw w g L) (hn:L.length=n) (hV:VolOk L) :
    Calls Tryz.prog 32 #[.pointer (some ⟨p,q,none⟩)] w (Tells w.heap.size w (.int .i64 (endOf (supAt L)))):=by
  have cS:=super_any hp hR hn (by have:=hV.n64;omega) hV.sup
  have hs:=of_decide_eq_true hV.super
  obtain ⟨X,hX⟩:∃ X,supAt L=X:=⟨_,rfl⟩
  rw [hX] at cS hs ⊢
  clear hp hR hn hV hX
  obtain ⟨a,b,c,d,e⟩:=X
  obtain ⟨s1,s2,s3,s4,s5,s6,s7,s8,s9,s10⟩:=hs
  dsimp only at s1 s2 s3 s4 s5 s6 s7 s8 s9 s10
  unfold PSup.val at cS
  dsimp only at cS
  by_cases hc:c=2
  · have HE:Hid (endOf ⟨a,b,c,d,e⟩=max 59 (min a e)):=Lib.hid (by unfold endOf;rw [if_pos hc])
    subst hc
    go_enter Tryz.func32,Tryz.ntmps32
    go_wp2_with (go_at_call 42;refine cS.mono ?_;rintro e' w2 ⟨rfl,hb⟩;have HB:=Lib.hid hb;clear hb)
    go_ret
    exact ⟨by rw [HE.out];rfl,HB.out.alloc (HB.out.size) _⟩
  · have HE:Hid (endOf ⟨a,b,c,d,e⟩=a):=Lib.hid (by unfold endOf;rw [if_neg hc])
    have hne:(c != 2)=true:=by simpa using hc
    go_enter Tryz.func32,Tryz.ntmps32
    go_wp2_with (go_at_call 42;refine cS.mono ?_;rintro e' w2 ⟨rfl,hb⟩;have HB:=Lib.hid hb;clear hb)
    go_ret
    exact ⟨by rw [HE.out];rfl,HB.out.alloc (HB.out.size) _⟩
def freeB (B:List (List Int)):Int:=freeOf (flagsAt B) (endOf (supAt B)).toNat
theorem flags_arg {w:World} {g:Nat} {L:List (List Int)} (hR:Rw w g L) (h:2 < L.length):Arg w (some ⟨g,128,none⟩) 60 64 (flagsAt L):=by
  have:=hR.arg (i:=2) (d:=0) (m:=60) (cap:=64) h (by decide) (by decide)
  rw [List.drop_zero] at this
  exact this
set_option maxRecDepth 100000 in
set_option maxHeartbeats 1600000 in
theorem free_at {w:World} {p gb gl gs cb cl cs:Nat} {I:Img} (h:ImgAt w p gb gl gs cb cl cs I) (hV:VolOk I.bl) :
    Calls Tryz.prog 12 #[.pointer (some ⟨p,0,none⟩)] w (Tells w.heap.size w (.int .i64 (freeB I.bl))):=by
  have cN:=none_at h
  have hp:=h.lt.1
  have hcell:∀ W,Below w.heap.size w W→W.cell? ⟨p,0,none⟩=some (.slice (some ⟨gb,0,none⟩) I.bl.length cb):=fun W hW=>by rw [hW.cell (p:=⟨p,0,none⟩) hp];exact h.c0
  have hrw:∀ W,Below w.heap.size w W→Rw W gb I.bl:=fun W hW=>h.rb.later h.n0.1 hW
  obtain ⟨hi,he,h59,hle⟩:=hV.ends
  have h480:=hV.n64.2
  have HE:Hid (∀ W,Below w.heap.size w W→Calls Tryz.prog 32 #[.pointer (some ⟨p,0,none⟩)] W (Tells W.heap.size W (.int .i64 hi))):=Lib.hid (fun W hW=>by
    rw [← he]
    exact end_any (hcell W hW) (hrw W hW) rfl hV)
  have HFL:Hid (∀ W,Below w.heap.size w W→Calls Tryz.prog 31 #[.pointer (some ⟨p,0,none⟩)] W fun e w'=>e=.returned (.slice (some ⟨gb,128,none⟩) 60 64)∧W=w'):=Lib.hid (fun W hW=>flags_any (hcell W hW) (by omega))
  have HFR:Hid (∀ W,Below w.heap.size w W→Calls Tryz.prog 36 #[.slice (some ⟨gb,128,none⟩) 60 64,.int .i64 hi] W (Tells W.heap.size W (.int .i64 (freeB I.bl)))):=Lib.hid (fun W hW=>by
    have hx:=ifree_any _ 64 (flagsAt I.bl) hi W (flags_arg (hrw W hW) (by omega)) h59 (by omega)
    unfold freeB
    rw [he]
    exact hx)
  generalize freeB I.bl=Z at *
  clear hcell hrw he h59 hle h480 h hV
  go_enter Tryz.func12,Tryz.ntmps12
  go_wp2_with (go_at_call 29;refine cN.mono ?_;rintro e' w' ⟨rfl,rfl⟩)
  go_region_held3 (fun _=>True) (exact True.intro) ((first
    | (go_at_call 31;refine (HFL.out _ (Below.refl _ _).drew).mono ?_;rintro e' w' ⟨rfl,rfl⟩)
    | (go_at_call 32;refine (HE.out _ (Below.refl _ _).drew).mono ?_;rintro e' w2 ⟨rfl,hb⟩;have HB2:Hid (Below w.heap.size w w2):=Lib.hid ((Below.refl _ _).drew.trans hb);clear hb)
    | (go_at_call 36;refine (HFR.out _ HB2.out).mono ?_;rintro e' w3 ⟨rfl,hb⟩;have HB3:Hid (Below w.heap.size w w3):=Lib.hid (HB2.out.trans (hb.mono HB2.out.size));clear hb)))
  go_wp2_with fail
  go_ret
  exact ⟨rfl,HB3.out⟩
theorem free_any {w:World} {a:Addr} {F:Nat→Prop} {I:Img} (h:ImgI w a F I) (hV:VolOk I.bl) :
    Calls Tryz.prog 12 #[.pointer (some a)] w (Tells w.heap.size w (.int .i64 (freeB I.bl))):=by
  obtain ⟨p,gb,gl,gs,cb,cl,cs,rfl,h,rfl⟩:=h
  exact free_at h hV
theorem FreshI.grew {F F':Nat→Prop} {w w':World} {base:Nat} {v:Value} {zs:List Int} (h:FreshI w base v zs) (hG:Grew F F' w w') (hF:∀ k,F k→k < base):FreshI w' base v zs:=by
  obtain ⟨ao,cap,rfl,⟨⟨h1,h2,h3⟩,h4,h5,h6⟩,hf⟩:=h
  refine ⟨ao,cap,rfl,⟨⟨h1,h2,?_⟩,h4,h5,h6⟩,hf⟩
  rcases hf with rfl | ⟨g,off,rfl,hg⟩
  · exact Or.inl rfl
  · rcases h3 with h3 | ⟨b,o,e,hc⟩
    · exact Or.inl h3
    · cases e
      by_cases h0:zs.length=0
      · exact Or.inl h0
      · refine Or.inr ⟨g,off,rfl,fun j x hx=>?_⟩
        have hlt:=World.block_lt_of_cell? _ _ (hc j x hx)
        rw [cell_of_heap (p:=⟨g,off+j,none⟩) (hG.block hlt (fun hf=>by have:=hF g hf;omega))]
        exact hc j x hx
/-! ### Take -/
def takeE (B:List (List Int)) (n:Nat):Int:=pickE (flagsAt B) n (endOf (supAt B)).toNat
def takeL (B:List (List Int)) (n:Nat):List Int:=if takeE B n=0 then pickL (flagsAt B) n (endOf (supAt B)).toNat else []
def takeB (B:List (List Int)) (n:Nat):List (List Int):=if takeE B n=0 then withFlags B (markL (flagsAt B) true (takeL B n)) else B
def TakeDone (w:World) (a:Addr) (F:Nat→Prop) (I:Img) (n:Nat) (e:Ending) (w':World):Prop:=
  ∃ v,e=.returned (.tuple #[v,.int .i64 (takeE I.bl n)])∧FreshI w' w.heap.size v (takeL I.bl n)∧ImgI w' a F { I with bl:=takeB I.bl n }∧Grew F F w w'
theorem runBlks_ok {rs:List (Nat × Nat)} (h:okRuns rs):okNums (runBlks rs):=fun x hx=>by
  unfold runBlks at hx
  obtain ⟨r,hr,hx⟩:=List.mem_flatMap.1 hx
  obtain ⟨k,hk,rfl⟩:=List.mem_map.1 hx
  have h2:=(h r hr).2
  have h3:=List.mem_range.1 hk
  omega
theorem pick_runs (f:List Int) (n hi:Nat) (hp:pickE f n hi=0) (hl:f.length=60) (h0:59≤hi) (h1:hi≤480):∃ rs,pickL f n hi=runBlks rs∧okRuns rs∧(pickL f n hi).length=n:=by
  unfold pickL
  by_cases hz:n=0
  · rw [if_pos hz];exact ⟨[],rfl,by intro r hr;simp at hr,by rw [hz];rfl⟩
  · rw [if_neg hz]
    have hsum:=free_sum hl h0 h1
    have hle:n≤sumG (downOut f 59 hi):=by
      unfold pickE at hp
      split at hp
      · cases hp
      · omega
    cases ht:tightGap (downOut f 59 hi) n with
    | some p=>
      have hq:=tight_mem ht
      have hb:=down_bound p hq.1
      refine ⟨_,rfl,fun r hr=>by rw [List.mem_singleton.1 hr];exact ⟨by show 1≤n;omega,by show p.1+n≤480;omega⟩,by show (runBlks [(p.1,n)]).length=n;rw [runBlks_length];rfl⟩
    | none=>exact ⟨_,rfl,some_bound,by show (runBlks _).length=n;rw [runBlks_length,some_sum hle]⟩
theorem takeL_ok {B:List (List Int)} (hV:VolOk B) (n:Nat) (h60:(flagsAt B).length=60):okNums (takeL B n)∧(takeL B n).length≤1000:=by
  unfold takeL takeE
  obtain ⟨hi,he,h59,hle⟩:=hV.ends
  have h480:=hV.n64.2
  rw [he,show ((hi:Int)).toNat=hi by omega]
  split
  · rename_i hp
    obtain ⟨rs,h1,h2,h3⟩:=pick_runs _ n hi hp h60 h59 (by omega)
    refine ⟨by rw [h1];exact runBlks_ok h2,?_⟩
    rw [h3]
    unfold pickE at hp
    split at hp
    · cases hp
    · rename_i hlt
      have:freeOf (flagsAt B) hi≤421:=by
        unfold freeOf
        have h3:=cnt_mono59 (flag (flagsAt B)) h59
        omega
      omega
  · exact ⟨by intro x hx;simp at hx,by simp⟩
set_option maxRecDepth 100000 in
set_option maxHeartbeats 1600000 in
theorem takes_at {w:World} {p gb gl gs cb cl cs:Nat} {I:Img} (n:Nat) (hn:n≤9223372036854775807) (h:ImgAt w p gb gl gs cb cl cs I) (hV:VolOk I.bl) :
    Calls Tryz.prog 8 #[.pointer (some ⟨p,0,none⟩),.int .i64 n] w (TakeDone w ⟨p,0,none⟩ (FootI p gb gl gs) I n):=by
  have cN:=none_at h
  have hp:=h.lt.1
  have hgb:=h.lt.2.1
  have hcell:∀ W,Below w.heap.size w W→W.cell? ⟨p,0,none⟩=some (.slice (some ⟨gb,0,none⟩) I.bl.length cb):=fun W hW=>by rw [hW.cell (p:=⟨p,0,none⟩) hp];exact h.c0
  have hrw:∀ W,Below w.heap.size w W→Rw W gb I.bl:=fun W hW=>h.rb.later h.n0.1 hW
  obtain ⟨hi,he,h59,hle⟩:=hV.ends
  have h480:=hV.n64.2
  have h60:(flagsAt I.bl).length=60:=(flags_arg h.rb (by omega)).1.1
  have HE:Hid (∀ W,Below w.heap.size w W→Calls Tryz.prog 32 #[.pointer (some ⟨p,0,none⟩)] W (Tells W.heap.size W (.int .i64 hi))):=Lib.hid (fun W hW=>by
    rw [← he]
    exact end_any (hcell W hW) (hrw W hW) rfl hV)
  have HFL:Hid (∀ W,Below w.heap.size w W→Calls Tryz.prog 31 #[.pointer (some ⟨p,0,none⟩)] W fun e w'=>e=.returned (.slice (some ⟨gb,128,none⟩) 60 64)∧W=w'):=Lib.hid (fun W hW=>flags_any (hcell W hW) (by omega))
  obtain ⟨E,hE⟩:∃ E,takeE I.bl n=E:=⟨_,rfl⟩
  obtain ⟨l,hL⟩:∃ l,takeL I.bl n=l:=⟨_,rfl⟩
  have hlok:=takeL_ok hV n h60
  rw [hL] at hlok
  have HPK:Hid (∀ W,Below w.heap.size w W→Calls Tryz.prog 30 #[.slice (some ⟨gb,128,none⟩) 60 64,.int .i64 n,.int .i64 hi] W fun e w'=>∃ v,e=.returned (.tuple #[v,.int .i64 E])∧FreshI w' W.heap.size v l∧Below W.heap.size W w'):=Lib.hid (fun W hW=>by
    have hx:=ipick_any _ 64 (flagsAt I.bl) n hi W (flags_arg (hrw W hW) (by omega)) h59 (by omega) hn
    unfold PickDone at hx
    have e1:pickE (flagsAt I.bl) n hi=E:=by rw [← hE];unfold takeE;rw [he];rfl
    have e2:(if pickE (flagsAt I.bl) n hi=0 then pickL (flagsAt I.bl) n hi else [])=l:=by rw [← hL];unfold takeL takeE;rw [he];rfl
    rw [e2,e1] at hx
    exact hx)
  have HT:Hid (takeB I.bl n=if E=0 then withFlags I.bl (markL (flagsAt I.bl) true l) else I.bl):=Lib.hid (by unfold takeB;rw [hE,hL])
  have HEL:=Lib.hid (And.intro hE hL)
  have HMK:Hid (∀ W ao cap,Below w.heap.size w W→IArg W ao l.length cap l→Calls Tryz.prog 34 #[.slice (some ⟨gb,128,none⟩) 60 64,.bool true,.slice (some ⟨W.heap.size,0,none⟩) 1 1] (W.alloc (.cells #[.slice ao l.length cap] 31)) (Gives (W.alloc (.cells #[.slice ao l.length cap] 31)).heap.size (W.alloc (.cells #[.slice ao l.length cap] 31)) (markL (flagsAt I.bl) true l))):=Lib.hid (fun W ao cap hW hA=>by
    have hb:Below W.heap.size W (W.alloc (.cells #[.slice ao l.length cap] 31)):=(Below.refl _ _).alloc (Nat.le_refl _) _
    have hx:=imark_any _ 64 (flagsAt I.bl) true W.heap.size 0 1 1 [l] _ ((flags_arg (hrw W hW) (by omega)).later hb) rfl (fun j zs hj=>by
      match j,hj with
      | 0,hj=>cases Option.some.inj hj;exact ⟨ao,l.length,cap,by simp,hA.later hb⟩
      | j+1,hj=>simp at hj) (by show l.length+0≤10000;omega) (by decide) (by simpa using hlok.1)
    rw [show [l].flatten=l by simp] at hx
    exact hx)
  have HSF:Hid (∀ W g o c,Below w.heap.size w W→Arg W (some ⟨g,o,none⟩) 60 c (markL (flagsAt I.bl) true l)→Calls Tryz.prog 33 #[.pointer (some ⟨p,0,none⟩),.slice (some ⟨g,o,none⟩) 60 c] W fun e w'=>e=.returned (.tuple #[])∧Rw w' gb (withFlags I.bl (markL (flagsAt I.bl) true l))∧Grew (fun k=>k=gb) (fun k=>k=gb) W w'):=Lib.hid (fun W g o c hW hA=>setFlags_any (hcell W hW) (hrw W hW) rfl (by omega) hA)
  have HI:=Lib.hid h
  have HML:Hid ((markL (flagsAt I.bl) true l).length=60∧markL (flagsAt I.bl) true l≠[]):=Lib.hid (by
    have:(markL (flagsAt I.bl) true l).length=60:=markP_length _ _ _
    exact ⟨this,fun h=>by rw [h] at this;cases this⟩)
  clear hcell hrw he h59 hle h480 h hV hE hL hlok h60 hn
  by_cases hE0:E=0
  · subst hE0
    go_enter Tryz.func8,Tryz.ntmps8
    go_wp2_with (go_at_call 29;refine cN.mono ?_;rintro e' w' ⟨rfl,rfl⟩)
    go_region_held3 (fun _=>True) (exact True.intro) ((first
      | (go_at_call 31;refine (HFL.out _ (Below.refl _ _).drew).mono ?_;rintro e' w' ⟨rfl,rfl⟩)
      | (go_at_call 32;refine (HE.out _ (Below.refl _ _).drew).mono ?_;rintro e' w2 ⟨rfl,hb⟩;have HB2:Hid (Below w.heap.size w w2):=Lib.hid ((Below.refl _ _).drew.trans hb);clear hb)
      | (go_at_call 30;refine (HPK.out _ HB2.out).mono ?_;rintro e' w3 ⟨v,rfl,hf,hb⟩;have HF3:=Lib.hid (hf.mono HB2.out.size);obtain ⟨ao,cap,rfl,hA,_⟩:=hf;have HA3:=Lib.hid hA;have HB3:Hid (Below w.heap.size w w3):=Lib.hid (HB2.out.trans (hb.mono HB2.out.size));clear hb hA)))
    go_wp2_with fail
    go_region_held3 (fun _=>True) (exact True.intro) ((first
      | (go_at_call 31;first | ((refine (HFL.out _ HB3.out.drew).mono ?_);rintro e' w' ⟨rfl,rfl⟩) | ((refine (HFL.out _ (HB3.out.drew.alloc HB3.out.drew.size _)).mono ?_);rintro e' w' ⟨rfl,rfl⟩))
      | (go_at_call 34;refine (HMK.out _ ao cap HB3.out.drew (HA3.out.later (Below.refl _ _).drew)).mono ?_;rintro e' w4 ⟨v4,rfl,hf4,hb4⟩;obtain ⟨g4,o4,k4,rfl,hA4,_⟩:=fresh_slice hf4 HML.out.2;rw [HML.out.1] at hA4 ⊢;have HA4:=Lib.hid hA4;have HB34:Hid (Below w3.heap.size w3 w4):=Lib.hid (((Below.refl w3.heap.size w3).drew.alloc (Nat.le_refl _) _).trans (hb4.mono (by simp)));have HB4:=Lib.hid (HB3.out.trans (HB34.out.mono HB3.out.size));clear hf4 hb4 hA4)
      | (go_at_call 33;refine (HSF.out w4 g4 o4 k4 HB4.out HA4.out).mono ?_;rintro e' w5 ⟨rfl,hr5,hg5⟩;have H5:=Lib.hid (And.intro hr5 hg5);clear hr5 hg5)))
    all_goals
      go_wp2_with fail
      go_ret2
      have hg:=(Grew.of_below (F:=fun k=>k=gb) HB4.out).trans H5.out.2
      refine ⟨_,by rw [HEL.out.1];rfl,?_,⟨p,gb,gl,gs,cb,cl,cs,rfl,?_,rfl⟩,hg.foot⟩
      · rw [HEL.out.2]
        exact (HF3.out.later HB34.out).grew H5.out.2 (fun k e=>by omega)
      · have hT:=HT.out
        simp only [if_true] at hT
        rw [hT]
        exact HI.out.setBl H5.out.1 (by unfold withFlags;rw [List.length_set]) hg
  · have hne:(E != 0)=true:=by simpa using hE0
    go_enter Tryz.func8,Tryz.ntmps8
    go_wp2_with (go_at_call 29;refine cN.mono ?_;rintro e' w' ⟨rfl,rfl⟩)
    go_region_held3 (fun _=>True) (exact True.intro) ((first
      | (go_at_call 31;refine (HFL.out _ (Below.refl _ _).drew).mono ?_;rintro e' w' ⟨rfl,rfl⟩)
      | (go_at_call 32;refine (HE.out _ (Below.refl _ _).drew).mono ?_;rintro e' w2 ⟨rfl,hb⟩;have HB2:Hid (Below w.heap.size w w2):=Lib.hid ((Below.refl _ _).drew.trans hb);clear hb)
      | (go_at_call 30;refine (HPK.out _ HB2.out).mono ?_;rintro e' w3 ⟨v,rfl,hf,hb⟩;have HB3:Hid (Below w.heap.size w w3):=Lib.hid (HB2.out.trans (hb.mono HB2.out.size));clear hb hf)))
    go_wp2_with fail
    go_ret2
    refine ⟨_,by rw [HEL.out.1];rfl,?_,⟨p,gb,gl,gs,cb,cl,cs,rfl,?_,rfl⟩,Grew.of_below HB3.out⟩
    · unfold takeL
      rw [HEL.out.1,if_neg hE0]
      exact FreshI.nil _ _
    · rw [HT.out,if_neg hE0]
      exact HI.out.kept (fun k hk=>HB3.out.block k (by have:=HI.out.lt;rcases hk with rfl | rfl | rfl | rfl <;> omega))
end Go.Proofs.YtcefmpnijjcekaaGreatDoor
namespace Go.Proofs.YtcefmpnijjcekaaGreatDoor
def okP (p:Int):Bool:=decide (p=0∨59≤p∧p≤479)
def nzB (p:Int):Bool:=decide (p≠0)
def nzL (l:List Int):List Int:=l.filter nzB
def apartL (l:List Int):Bool:=l.all okP&&decide (nzL l).Nodup
def ptrsOk (l:List Int):Bool:=decide (l.length≤96)&&apartL l
def partP (l:List Int) (s n:Nat):List Int:=(List.range n).map fun i=>l.getD (s+i) 0
def someP (l:List Int) (s n:Nat):Bool:=(partP l s n).any nzB
def underN (l:List Int):Nat:=(someP l 34 30).toNat+((someP l 64 30).toNat+(someP l 94 30).toNat)
def needP (l:List Int):Nat:=(someP l 4 30).toNat+(if underN l=0 then 0 else underN l+1)
def pageB (l:List Int):List Int:=sealOf sumS (l.flatMap fun p=>leB p 2)
def needErr (l:List Int):Int:=if ptrsOk l=true then 0 else 1
def needOut (l:List Int):Int:=if ptrsOk l=true then (needP l:Int) else 0
def dataP (p:Int):Bool:=decide (59≤p∧p≤479)
def freshErr (fresh:List Int) (need:Nat) (others:List Int):Int:=
  if fresh.length < need then 6 else if (fresh.take need).all dataP&&apartL (others ++ fresh.take need) then 0 else 1
def whenB (b:Bool) (p:Int):Int:=if b=true then p else 0
def whenW (b:Bool) (p:Int) (xs:List Int):List (Int × List Int):=if b=true then [(p,pageB xs)] else []
def singleP (l fresh:List Int):Int:=whenB (someP l 4 30) (fresh.getD 0 0)
def doubleB (l:List Int):Bool:=decide (underN l≠0)
def doubleP (l fresh:List Int):Int:=whenB (doubleB l) (fresh.getD (someP l 4 30).toNat 0)
def under0 (l fresh:List Int):Int:=whenB (someP l 34 30) (fresh.getD ((someP l 4 30).toNat+1) 0)
def under1 (l fresh:List Int):Int:=whenB (someP l 64 30) (fresh.getD ((someP l 4 30).toNat+1+(someP l 34 30).toNat) 0)
def under2 (l fresh:List Int):Int:=whenB (someP l 94 30) (fresh.getD ((someP l 4 30).toNat+1+(someP l 34 30).toNat+(someP l 64 30).toNat) 0)
def writesP (l fresh:List Int):List (Int × List Int):=
  whenW (someP l 4 30) (singleP l fresh) (partP l 4 30) ++ (whenW (doubleB l) (doubleP l fresh) [under0 l fresh,under1 l fresh,under2 l fresh] ++
    (whenW (someP l 34 30) (under0 l fresh) (partP l 34 30) ++ (whenW (someP l 64 30) (under1 l fresh) (partP l 64 30) ++ whenW (someP l 94 30) (under2 l fresh) (partP l 94 30))))
/-! ### ReadingT -/
def words (b:List Int):List Int:=(List.range 30).map fun i=>leN b (2 * i) 2
def pageOf (b:List Int):Option (List Int):=
  if (decide (b.length=64∧sealOf sumS b=b)&&((words b).any nzB&&apartL (words b)))=true then some (words b) else none
def findW (bs:List (Int × List Int)) (p:Int):Option (List Int):=(bs.find? fun w=>decide (w.1=p)).map (·.2)
def pageAt (bs:List (Int × List Int)) (p:Int):Option (List Int):=if p=0 then some (List.replicate 30 0) else (findW bs p).bind pageOf
def trimL:List Int→List Int
  | []=>[]
  | x::r=>if x=0∧trimL r=[] then [] else x::trimL r
def allOf (f:Int→Option (List Int)):List Int→Option (List Int)
  | []=>some []
  | x::r=>match f x,allOf f r with
    | some a,some b=>some (a ++ b)
    | _,_=>none
/-! ### Plain facts -/
theorem trim_zeros (n:Nat):trimL (List.replicate n 0)=[]:=by
  induction n with
  | zero=>rfl
  | succ n ih=>show (if (0:Int)=0∧trimL (List.replicate n 0)=[] then [] else _)=[];rw [if_pos ⟨rfl,ih⟩]
theorem trim_append_zeros (l:List Int) (n:Nat):trimL (l ++ List.replicate n 0)=trimL l:=by
  induction l with
  | nil=>exact trim_zeros n
  | cons x r ih=>show (if x=0∧trimL (r ++ List.replicate n 0)=[] then [] else x::trimL (r ++ List.replicate n 0))=_;rw [ih];rfl
theorem trim_prefix (l:List Int):∃ n,l=trimL l ++ List.replicate n 0:=by
  induction l with
  | nil=>exact ⟨0,rfl⟩
  | cons x r ih=>
    obtain ⟨n,h⟩:=ih
    by_cases hx:x=0∧trimL r=[]
    · refine ⟨n+1,?_⟩
      have e:trimL (x::r)=[]:=if_pos hx
      rw [hx.2,List.nil_append] at h
      rw [e,hx.1,List.replicate_succ,List.nil_append,← h]
    · refine ⟨n,?_⟩
      have e:trimL (x::r)=x::trimL r:=if_neg hx
      rw [e,List.cons_append,← h]
theorem nz_zeros (n:Nat):nzL (List.replicate n 0)=[]:=by
  unfold nzL
  rw [List.filter_eq_nil_iff]
  intro a ha
  rw [List.eq_of_mem_replicate ha]
  decide
theorem nz_append (a b:List Int):nzL (a ++ b)=nzL a ++ nzL b:=List.filter_append ..
theorem partP_length (l:List Int) (s n:Nat):(partP l s n).length=n:=by unfold partP;simp
theorem partP_get (l:List Int) (s n i:Nat) (h:i < n):(partP l s n)[i]?=some (l.getD (s+i) 0):=by
  unfold partP
  rw [List.getElem?_map,List.getElem?_range h]
  rfl
theorem partP_all (l:List Int) (n:Nat) (h:l.length≤n):partP l 0 n=l ++ List.replicate (n - l.length) 0:=by
  apply List.ext_getElem?
  intro i
  by_cases hi:i < n
  · rw [partP_get l 0 n i hi,Nat.zero_add]
    by_cases hl:i < l.length
    · rw [List.getElem?_append_left hl,List.getD_eq_getElem?_getD,List.getElem?_eq_getElem hl]
      rfl
    · rw [List.getElem?_append_right (by omega),List.getElem?_replicate,if_pos (by omega),List.getD_eq_getElem?_getD,List.getElem?_eq_none (by omega)]
      rfl
  · rw [List.getElem?_eq_none (by rw [partP_length];omega),List.getElem?_eq_none (by rw [List.length_append,List.length_replicate];omega)]
theorem all_zeros (n:Nat):(List.replicate n (0:Int)).all okP=true:=by
  rw [List.all_eq_true]
  intro x hx
  rw [List.eq_of_mem_replicate hx]
  decide
theorem apart_append {a b:List Int} (h:apartL (a ++ b)=true):apartL a=true∧apartL b=true:=by
  unfold apartL at h ⊢
  rw [nz_append,List.all_append] at h
  simp only [Bool.and_eq_true,decide_eq_true_eq] at h ⊢
  have:=List.nodup_append.1 h.2
  exact ⟨⟨h.1.1,this.1⟩,h.1.2,this.2.1⟩
theorem apart_zeros {a:List Int} (n:Nat):apartL (a ++ List.replicate n 0)=apartL a:=by
  unfold apartL
  rw [nz_append,nz_zeros,List.append_nil,List.all_append,all_zeros,Bool.and_true]
theorem flat_len:∀ xs:List Int,(xs.flatMap fun p=>leB p 2).length=2 * xs.length
  | []=>rfl
  | x::r=>by
    rw [List.flatMap_cons,List.length_append,leB_length,flat_len r,List.length_cons]
    omega
theorem page_sealed {xs:List Int} (hl:xs.length≤30):(pageB xs).length=64∧sealOf sumS (pageB xs)=pageB xs:=by
  have hb:(xs.flatMap fun p=>leB p 2).length≤60:=by rw [flat_len];omega
  have h64:(pageB xs).length=64:=seal_short_length hb
  refine ⟨h64,?_⟩
  rw [sealOf_take h64]
  unfold pageB
  rw [seal_short hb,List.take_append_of_le_length (by rw [List.length_append,List.length_replicate];omega),List.take_of_length_le (by rw [List.length_append,List.length_replicate];omega)]
theorem take_range (l:List Int) (n:Nat) (h:n≤l.length):l.take n=(List.range n).map fun i=>l.getD i 0:=by
  apply List.ext_getElem?
  intro i
  by_cases hi:i < n
  · rw [List.getElem?_take,if_pos hi,List.getElem?_map,List.getElem?_range hi,List.getElem?_eq_getElem (by omega)]
    simp [List.getD_eq_getElem?_getD,List.getElem?_eq_getElem (show i < l.length by omega)]
  · rw [List.getElem?_eq_none (by rw [List.length_take];omega),List.getElem?_eq_none (by simp;omega)]
theorem keys_plan {l fresh:List Int} (h:needP l≤fresh.length):(writesP l fresh).map (·.1)=fresh.take (needP l):=by
  rw [take_range fresh (needP l) h]
  unfold writesP singleP doubleP under0 under1 under2 needP doubleB underN
  generalize someP l 4 30=a
  generalize someP l 34 30=b
  generalize someP l 64 30=c
  generalize someP l 94 30=d
  cases a <;> cases b <;> cases c <;> cases d <;> rfl
theorem numbers_plan {l fresh:List Int} (hz:∀ i,i < needP l→nzB (fresh.getD i 0)=true) :
    nzL [singleP l fresh,doubleP l fresh,under0 l fresh,under1 l fresh,under2 l fresh]=(writesP l fresh).map (·.1):=by
  unfold writesP singleP doubleP under0 under1 under2 doubleB underN
  unfold needP underN at hz
  generalize someP l 4 30=a at *
  generalize someP l 34 30=b at *
  generalize someP l 64 30=c at *
  generalize someP l 94 30=d at *
  have h0:=hz 0
  have h1:=hz 1
  have h2:=hz 2
  have h3:=hz 3
  have h4:=hz 4
  clear hz
  have n0:nzB 0=false:=rfl
  cases a <;> cases b <;> cases c <;> cases d <;> simp_all [whenB,whenW,nzL,Bool.toNat]
theorem all_append (f:Int→Option (List Int)):∀ {a b x y:List Int},allOf f a=some x→allOf f b=some y→allOf f (a ++ b)=some (x ++ y)
  | [],b,x,y,h1,h2=>by
    cases h1
    exact h2
  | q::r,b,x,y,h1,h2=>by
    unfold allOf at h1
    show (match f q,allOf f (r ++ b) with
      | some a,some b=>some (a ++ b)
      | _,_=>none)=_
    cases hq:f q with
    | none=>rw [hq] at h1;cases h1
    | some u=>
      cases hr:allOf f r with
      | none=>rw [hq,hr] at h1;cases h1
      | some v=>
        rw [hq,hr] at h1
        cases h1
        rw [all_append f hr h2]
        show some (u ++ (v ++ y))=_
        rw [List.append_assoc]
theorem fresh_ok {fresh others:List Int} {n:Nat} (h:freshErr fresh n others=0):n≤fresh.length∧(∀ x ∈ fresh.take n,dataP x=true)∧apartL (others ++ fresh.take n)=true:=by
  unfold freshErr at h
  split at h
  · exact absurd h (by decide)
  · split at h
    · next h1 h2=>
      rw [Bool.and_eq_true,List.all_eq_true] at h2
      exact ⟨by omega,h2⟩
    · exact absurd h (by decide)
/-! ### Zeros behind pointers -/
end Go.Proofs.YtcefmpnijjcekaaGreatDoor
namespace Go.Proofs.YtcefmpnijjcekaaGreatDoor
open Go.RowKit
def pageV (p:List Int):Value:=.agg (ints p).toArray
theorem uPage:Tryz.prog.underlying 223=some (.array 30 3):=Tryz.underlying223
theorem iPage {p:List Int} (h:p.length=30):(Tryz.prog.info? 223).map (·.size)=some (ints p).length:=by rw [ints_length,h];kernel_rfl
theorem part_int (w:World) (p:List Int) (i:Nat) (h:i < p.length):(part 3 (ints p).toArray i).run Tryz.prog w=.ok (.int .i64 (p.getD i 0)) w:=by
  have e:(ints p).toArray[i]?=some (.int .i64 (p.getD i 0)):=by
    rw [List.getElem?_toArray]
    exact ints_get (by rw [List.getD_eq_getElem?_getD,List.getElem?_eq_getElem h];rfl)
  unfold part isAgg
  rw [Sem.run_bind,Sem.run_bind,run_underlying Tryz.underlying3 w]
  simp [e]
theorem eq_items (w:World) (d:Nat) (p q:List Int):∀ is:List Nat,(∀ i ∈ is,i < p.length∧i < q.length)→
    (Op.eqItems (d+1) 3 1 (ints p).toArray (ints q).toArray is).run Tryz.prog w=.ok (is.all fun j=>p.getD j 0 == q.getD j 0) w
  | [],_=>by simp [Op.eqItems]
  | i::is,h=>by
    obtain ⟨h1,h2⟩:=h i (by simp)
    simp only [Op.eqItems,Sem.run_bind,Nat.mul_one,part_int w p i h1,part_int w q i h2,Result.andThen_ok,run_equalIn_int w d 3 .i64 .i64 (p.getD i 0) (q.getD i 0) Tryz.underlying3,List.all_cons]
    cases p.getD i 0 == q.getD i 0
    · simp
    · simpa using eq_items w d p q is (fun j hj=>h j (List.mem_cons_of_mem _ hj))
theorem zero_items {p:List Int} (h:p.length=30):(List.range 30).all (fun j=>p.getD j 0 == (List.replicate 30 (0:Int)).getD j 0)=!(p.any nzB):=by
  rw [Bool.eq_iff_iff,List.all_eq_true,Bool.not_eq_true',List.any_eq_false]
  constructor
  · intro hh x hx
    obtain ⟨i,hi,rfl⟩:=List.mem_iff_getElem.1 hx
    have:=hh i (List.mem_range.2 (by omega))
    rw [List.getD_eq_getElem?_getD,List.getD_eq_getElem?_getD,List.getElem?_replicate,if_pos (by omega),List.getElem?_eq_getElem hi] at this
    simpa [nzB] using this
  · intro hh i hi
    have hi':=List.mem_range.1 hi
    have:=hh p[i] (List.getElem_mem (by omega))
    rw [List.getD_eq_getElem?_getD,List.getD_eq_getElem?_getD,List.getElem?_replicate,if_pos (by omega),List.getElem?_eq_getElem (by omega)]
    simpa [nzB] using this
def zero30:Array Value:=#[Value.int .i64 0,Value.int .i64 0,Value.int .i64 0,Value.int .i64 0,Value.int .i64 0,Value.int .i64 0,Value.int .i64 0,Value.int .i64 0,Value.int .i64 0,Value.int .i64 0,Value.int .i64 0,Value.int .i64 0,Value.int .i64 0,Value.int .i64 0,Value.int .i64 0,Value.int .i64 0,Value.int .i64 0,Value.int .i64 0,Value.int .i64 0,Value.int .i64 0,Value.int .i64 0,Value.int .i64 0,Value.int .i64 0,Value.int .i64 0,Value.int .i64 0,Value.int .i64 0,Value.int .i64 0,Value.int .i64 0,Value.int .i64 0,Value.int .i64 0]
theorem run_eq_page (w:World) (p:List Int) (h:p.length=30):(Op.equalIn 10000 223 (.agg (ints p).toArray) (.agg zero30)).run Tryz.prog w=.ok (!(p.any nzB)) w:=by
  obtain ⟨i0,hi0,hz0,hz1,hz2⟩:=info_parts elemI.2.1
  have hc:Tryz.prog.cellsOf 3=1:=by kernel_rfl
  rw [show zero30=(ints (List.replicate 30 0)).toArray from rfl,show (10000:Nat)=9999+1 from rfl,run_equalIn_array (P:=Tryz.prog) w 9999 _ _ uPage hi0,hc,eq_items w 9998 p (List.replicate 30 0) (List.range 30) (fun i hi=>by have:=List.mem_range.1 hi;simp only [List.length_replicate];omega),zero_items h]
set_option maxRecDepth 100000 in
set_option maxHeartbeats 1600000 in
theorem used_any (p:List Int) (w:World) (h:p.length=30):Calls Tryz.prog 204 #[pageV p] w fun e w'=>e=.returned (.bool (p.any nzB))∧Below w.heap.size w w':=by
  have hn:=fun W=>run_eq_page W p h
  unfold zero30 at hn
  have hr:(w.alloc (.cells (ints p).toArray 223)).rangeAt w.heap.size 0 (ints p):=fun j v hj=>by
    rw [Nat.zero_add,World.cell?_alloc_new]
    simpa using hj
  unfold pageV at *
  go_enter Tryz.func204,Tryz.ntmps204
  go_wp2_with (refine wpList_load_mid rfl 223 (.tmp 1) rfl w.heap.size 0 rfl (ints p) _ hr uPage rfl (iPage h) ?_)
  go_ret
  exact ⟨by simp,(Below.refl _ _).alloc (Nat.le_refl _) _⟩
end Go.Proofs.YtcefmpnijjcekaaGreatDoor
namespace Go.Proofs.YtcefmpnijjcekaaGreatDoor
open Go.RowKit
def ChartAt (w:World) (g:Nat) (L:List Int):Prop:=L.length=159∧w.rangeAt g 0 (ints L)
def pageL (L:List Int) (i:Nat):List Int:=(L.drop (4+i * 30)).take 30
def needsB (L:List Int) (i:Nat):Bool:=if i=1 then [pageL L 2,pageL L 3,pageL L 4].any (fun p=>p.any nzB) else (pageL L i).any nzB
theorem pageL_length {L:List Int} (h:L.length=159) {i:Nat} (hi:i < 5):(pageL L i).length=30:=by
  unfold pageL
  rw [List.length_take,List.length_drop]
  omega
theorem range_part {w:World} {g:Nat} {L:List Int} (h:w.rangeAt g 0 (ints L)) (o n:Nat):w.rangeAt g o (ints ((L.drop o).take n)):=fun j v hj=>by
  rw [ints_take,ints_drop,List.getElem?_take] at hj
  split at hj
  · rw [List.getElem?_drop] at hj
    have:=h _ v hj
    rwa [Nat.zero_add] at this
  · cases hj
theorem ChartAt.page {w:World} {g:Nat} {L:List Int} (h:ChartAt w g L) (i:Nat):w.rangeAt g (4+i * 30) (ints (pageL L i)):=range_part h.2 _ _
theorem ChartAt.later {w wx:World} {g:Nat} {L:List Int} (h:ChartAt w g L) (hb:Below w.heap.size w wx):ChartAt wx g L:=⟨h.1,fun j v hj=>cell_later hb (h.2 j v hj)⟩
theorem any_take_p {p:List Int→Bool} {l:List (List Int)} {i:Nat} {x:List Int} (h:l[i]?=some x) (h0:(l.take i).any p=false):(l.take (i+1)).any p=p x:=by
  rw [List.take_add_one,h,List.any_append,h0]
  simp
theorem any_of_take_p {p:List Int→Bool} {l:List (List Int)} {i:Nat} (h:(l.take i).any p=true):l.any p=true:=by
  rw [List.any_eq_true] at h ⊢
  obtain ⟨x,hx,hp⟩:=h
  exact ⟨x,List.mem_of_mem_take hx,hp⟩
def anyP (p:List Int):Bool:=p.any nzB
set_option maxRecDepth 100000 in
set_option maxHeartbeats 1600000 in
theorem indexU_any {w:World} {g:Nat} {ps:List (List Int)} (h3:ps.length=3) (hp:∀ i p,ps[i]?=some p→p.length=30∧w.rangeAt g (64+i * 30) (ints p)) :
    Calls Tryz.prog 236 #[.slice (some ⟨g,64,none⟩) (3:Nat) (3:Nat),.func (.func 204) #[] #[]] w fun e w'=>∃ r:Int,e=.returned (.int .i64 r)∧decide (0≤r)=ps.any anyP∧Below w.heap.size w w':=by
  have HP:=Lib.hid hp
  have HL:=Lib.hid h3
  clear hp h3
  go_enter Tryz.func236,Tryz.ntmps236
  go_wp2_with fail
  go_loopw [8] (fun iv wr=>∃ i:Nat,iv=.int .i64 (i:Int)∧i≤3∧Hid (Below w.heap.size w wr)∧Hid ((ps.take i).any anyP=false)) (fun iv _=>3 - (intOf iv).toNat)
  case atStart=>exact ⟨0,rfl,Nat.zero_le _,Lib.hid (Below.refl _ _),Lib.hid rfl⟩
  case round=>
    obtain ⟨i,rfl,hi,HB,HQ⟩:=hrel
    by_cases hlt:i < 3
    · obtain ⟨x,hx⟩:∃ x,ps[i]?=some x:=⟨_,List.getElem?_eq_getElem (by rw [HL.out];exact hlt)⟩
      obtain ⟨hl,hr⟩:=HP.out i x hx
      have hr:wr.rangeAt g (64+i * 30) (ints x):=fun j v hj=>cell_later HB.out (hr j v hj)
      have HI:=Lib.hid (iPage hl)
      have HR:=Lib.hid hr
      have cF:=fun W=>used_any x W hl
      unfold pageV at cF
      have i1:(i:Int) < 3:=by omega
      have HX:=Lib.hid hx
      have HV:Hid ((ps.take (i+1)).any anyP=x.any nzB):=Lib.hid (any_take_p HX.out HQ.out)
      obtain ⟨B,hB⟩:∃ B,x.any nzB=B:=⟨_,rfl⟩
      rw [hB] at HV cF
      clear hx hr hl hB
      cases B with
      | true=>
        have HT:=Lib.hid (any_of_take_p HV.out)
        clear HV
        go_wp2_with (first | (refine wpList_load_mid rfl 223 (.tmp 14) rfl g (64+i * 30) rfl (ints x) _ HR.out uPage rfl HI.out ?_) | (go_at_call 204;refine (cF _).mono ?_;rintro e w3 ⟨rfl,hb3⟩;have HB3:=Lib.hid hb3;clear hb3))
        go_ret
        exact ⟨(i:Int),rfl,by rw [HT.out];exact decide_eq_true (by omega),HB.out.trans (HB3.out.mono HB.out.size)⟩
      | false=>
        go_wp2_with (first | (refine wpList_load_mid rfl 223 (.tmp 14) rfl g (64+i * 30) rfl (ints x) _ HR.out uPage rfl HI.out ?_) | (go_at_call 204;refine (cF _).mono ?_;rintro e w3 ⟨rfl,hb3⟩;have HB3:=Lib.hid hb3;clear hb3))
        go_roundw
        case rel=>exact ⟨i+1,by go_num,by omega,Lib.hid (HB.out.trans (HB3.out.mono HB.out.size)),HV⟩
        case measure=>simp [intOf];omega
    · have hin:i=3:=by omega
      subst hin
      go_wp2_with fail
      go_ret
      refine ⟨-1,rfl,?_,HB.out⟩
      have h:=HQ.out
      rw [← HL.out,List.take_length] at h
      rw [h]
      rfl
set_option maxHeartbeats 800000 in
theorem containsU_any {w:World} {g:Nat} {ps:List (List Int)} (h3:ps.length=3) (hp:∀ i p,ps[i]?=some p→p.length=30∧w.rangeAt g (64+i * 30) (ints p)) :
    Calls Tryz.prog 203 #[.slice (some ⟨g,64,none⟩) (3:Nat) (3:Nat),.func (.func 204) #[] #[]] w fun e w'=>e=.returned (.bool (ps.any anyP))∧Below w.heap.size w w':=by
  have c:=indexU_any h3 hp
  clear h3 hp
  go_enter Tryz.func203,Tryz.ntmps203
  go_wp2_with (go_at_call 236;refine c.mono ?_;rintro e w2 ⟨r,rfl,hr,hb⟩;have HR:=Lib.hid hr;have HB:=Lib.hid hb;clear hr hb)
  go_ret
  exact ⟨by rw [← HR.out];rfl,HB.out⟩
set_option maxRecDepth 100000 in
set_option maxHeartbeats 1600000 in
theorem needs_any {w:World} {g i:Nat} {L:List Int} (hC:ChartAt w g L) (hi:i < 5) :
    Calls Tryz.prog 161 #[.pointer (some ⟨g,0,none⟩),.int .i64 i] w fun e w'=>e=.returned (.bool (needsB L i))∧Below w.heap.size w w':=by
  by_cases h1:i=1
  · subst h1
    have c:=containsU_any (w:=w) (g:=g) (ps:=[pageL L 2,pageL L 3,pageL L 4]) rfl (fun k p hk=>by
      match k,hk with
      | 0,hk=>cases hk;exact ⟨pageL_length hC.1 (by decide),hC.page 2⟩
      | 1,hk=>cases hk;exact ⟨pageL_length hC.1 (by decide),hC.page 3⟩
      | 2,hk=>cases hk;exact ⟨pageL_length hC.1 (by decide),hC.page 4⟩
      | k+3,hk=>simp at hk)
    have HN:Hid (needsB L 1=[pageL L 2,pageL L 3,pageL L 4].any anyP):=Lib.hid rfl
    obtain ⟨B,hB⟩:∃ B,[pageL L 2,pageL L 3,pageL L 4].any anyP=B:=⟨_,rfl⟩
    rw [hB] at HN c
    clear hC hB
    go_enter Tryz.func161,Tryz.ntmps161
    go_wp2_with (go_at_call 203;refine c.mono ?_;rintro e w2 ⟨rfl,hb⟩;have HB:=Lib.hid hb;clear hb)
    go_ret
    exact ⟨by rw [HN.out];rfl,HB.out⟩
  · have HR:=Lib.hid (hC.page i)
    have hl:=pageL_length hC.1 hi
    have HI:=Lib.hid (iPage hl)
    have c:=fun W=>used_any (pageL L i) W hl
    unfold pageV at c
    have HN:Hid (needsB L i=(pageL L i).any nzB):=Lib.hid (by unfold needsB;rw [if_neg h1])
    obtain ⟨B,hB⟩:∃ B,(pageL L i).any nzB=B:=⟨_,rfl⟩
    rw [hB] at HN c
    have i5:(i:Int) < 5:=by omega
    have n1:((i:Int) == 1)=false:=by simp;omega
    clear hC hB hl
    go_enter Tryz.func161,Tryz.ntmps161
    go_wp2_with (first | (refine wpList_load_mid rfl 223 (.tmp 16) rfl g (4+i * 30) rfl (ints (pageL L i)) _ HR.out uPage rfl HI.out ?_) | (go_at_call 204;refine (c _).mono ?_;rintro e w2 ⟨rfl,hb⟩;have HB:=Lib.hid hb;clear hb))
    go_ret
    exact ⟨by rw [HN.out];rfl,HB.out⟩
end Go.Proofs.YtcefmpnijjcekaaGreatDoor
namespace Go.Proofs.YtcefmpnijjcekaaGreatDoor
open Go.RowKit
def partV (g off n:Nat):Value:=.slice (some ⟨g,off,none⟩) n n
def partsVT (g:Nat):List Value:=[partV g 0 4,partV g 4 30,partV g 64 30,partV g 94 30,partV g 124 30]
theorem one_part (g o n:Nat):∀ u ∈ [partV g o n],u.oneCell'=true:=by
  intro u hu
  rw [List.mem_singleton.1 hu]
  rfl
theorem elemRows:ElemR 127 31 (.slice none 0 0) 1 24:=⟨Tryz.underlying127,by kernel_rfl,rfl,by decide,by decide⟩
theorem drew_of_r (w:World):({ w with drawn:=w.drawn+1 }:World)=w.drew:=rfl
set_option maxRecDepth 100000 in
set_option maxHeartbeats 3200000 in
theorem parts_any (g:Nat) (w:World):Calls Tryz.prog 202 #[.pointer (some ⟨g,0,none⟩)] w fun e w'=>∃ v,e=.returned v∧w'.ownsRow w.heap.size 31 1 v 5 (partsVT g)∧Below w.heap.size w w':=by
  go_enter Tryz.func202,Tryz.ntmps202
  go_wp2_with fail
  refine wp_region_still_tail 9 (by kernel_rfl) (by kernel_rfl) ?_
  simp only [List.take_succ_cons,List.take_zero,List.drop_succ_cons,List.drop_zero]
  try rw [drew_of_r]
  iterate 9 still_step
  refine wpStill_nil ?_
  go_wp2_with fail
  go_loopw [3,4] (fun lv iv wr=>∃ i:Int,iv=.int .i64 i∧(2≤i∧i≤5)∧Hid (wr.ownsRow w.heap.size 31 1 lv i.toNat ((partsVT g).take i.toNat))∧Hid (Below w.heap.size w wr)) (fun _ iv _=>5 - (intOf iv).toNat)
  case atStart=>exact ⟨2,rfl,by decide,Lib.hid (World.ownsRow_lit (base:=w.heap.size) (e:=31) (size:=1) w ((partsVT g).take 2).toArray 2 (Nat.le_refl _) (by decide) rfl),Lib.hid (((Below.refl _ _).alloc (Nat.le_refl _) _).drew)⟩
  case round=>
    obtain ⟨i,rfl,hi,HR,HB⟩:=hrel
    by_cases hlt:i < 5
    · have HZ:Hid (w.heap.size≤wr.heap.size+1):=Lib.hid (by have:=HB.out.size;omega)
      obtain rfl | rfl | rfl:i=2∨i=3∨i=4:=by omega
      · go_wp2_with (at_builtin;refine wp_append_r elemRows rfl (.tmp 19) (.tmp 26) rfl w.heap.size 2 _ _ rfl (HR.out.alloc _) ⟨wr.heap.size,0,none⟩ 1 1 [partV g 64 30] rfl rfl (news_r wr [partV g 64 30] _) (one_part _ _ _) (by decide) (by simpa using HZ.out) ?_;intro v1 w1 hown1 hg1 hb1;have HO1:=Lib.hid hown1;have HB1:=Lib.hid ((HB.out.alloc HB.out.size _).trans hb1);clear hown1 hg1 hb1)
        go_roundw
        case rel=>exact ⟨3,by go_num,by decide,HO1,HB1⟩
        case measure=>simp [intOf]
      · go_wp2_with (at_builtin;refine wp_append_r elemRows rfl (.tmp 19) (.tmp 26) rfl w.heap.size 3 _ _ rfl (HR.out.alloc _) ⟨wr.heap.size,0,none⟩ 1 1 [partV g 94 30] rfl rfl (news_r wr [partV g 94 30] _) (one_part _ _ _) (by decide) (by simpa using HZ.out) ?_;intro v1 w1 hown1 hg1 hb1;have HO1:=Lib.hid hown1;have HB1:=Lib.hid ((HB.out.alloc HB.out.size _).trans hb1);clear hown1 hg1 hb1)
        go_roundw
        case rel=>exact ⟨4,by go_num,by decide,HO1,HB1⟩
        case measure=>simp [intOf]
      · go_wp2_with (at_builtin;refine wp_append_r elemRows rfl (.tmp 19) (.tmp 26) rfl w.heap.size 4 _ _ rfl (HR.out.alloc _) ⟨wr.heap.size,0,none⟩ 1 1 [partV g 124 30] rfl rfl (news_r wr [partV g 124 30] _) (one_part _ _ _) (by decide) (by simpa using HZ.out) ?_;intro v1 w1 hown1 hg1 hb1;have HO1:=Lib.hid hown1;have HB1:=Lib.hid ((HB.out.alloc HB.out.size _).trans hb1);clear hown1 hg1 hb1)
        go_roundw
        case rel=>exact ⟨5,by go_num,by decide,HO1,HB1⟩
        case measure=>simp [intOf]
    · have hin:i=5:=by omega
      subst hin
      go_wp2_with fail
      go_ret
      exact ⟨_,rfl,HR.out,HB.out⟩
end Go.Proofs.YtcefmpnijjcekaaGreatDoor
