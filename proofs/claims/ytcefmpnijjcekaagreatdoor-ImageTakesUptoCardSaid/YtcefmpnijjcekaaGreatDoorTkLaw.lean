/- Proved here: any number of blocks of any volume that Take hands back are free ones, each once, up then, and one run, if there is one. The rows are those of the second form. -/
import Derived.Test.YtcefmpnijjcekaaGreatDoorTk22
import Derived.Test.YtcefmpnijjcekaaGreatDoorTk23
import Derived.Test.YtcefmpnijjcekaaGreatDoorTk25
import Derived.Test.YtcefmpnijjcekaaGreatDoorTk26
import Derived.Test.YtcefmpnijjcekaaGreatDoorCards
import Derived.Test.YtcefmpnijjcekaaGreatDoorTie
import Derived.WalkKit
import Derived.ProofKit
import Derived.OpenShut
import Derived.Deep.DeepHandedRow
import Derived.Lay
import Derived.MakeChecks
set_option linter.unusedVariables false
set_option linter.unusedSimpArgs false
namespace Go.Proofs.YtcefmpnijjcekaaGreatDoor.imageTakes
open Go.ChangeShapes Go.WideShapes Go.ChangeAt Go.RowKit
open Go.ChangeMaps (open_string shut_string)
structure Both (w W:World) (a:Addr) (F:Nat→Prop) (I:Img) (p:Nat) (B:List (List Int)) (ao:Option Addr) (m c:Nat):Prop where
  img:ImgI W a F I
  vol:VolAt W p B ao m c
  bel:Below w.heap.size w W
  foot:∀ k,F k→w.heap.size≤k
theorem Both.later {w W W':World} {a:Addr} {F:Nat→Prop} {I:Img} {p:Nat} {B:List (List Int)} {ao:Option Addr} {m c:Nat} (h:Both w W a F I p B ao m c) (hb:Below W.heap.size W W'):Both w W' a F I p B ao m c:=
  ⟨h.img.later hb,h.vol.later hb,h.bel.trans (hb.mono h.bel.size),h.foot⟩
theorem takeE_no {B:List (List Int)} {n:Nat} (h:freeB B < (n:Int)):takeE B n=6∧takeL B n=[]:=by
  have e:takeE B n=6:=by
    unfold takeE pickE
    rw [if_pos]
    exact h
  refine ⟨e,?_⟩
  unfold takeL
  rw [e,if_neg (by decide)]
set_option maxRecDepth 100000 in
set_option maxHeartbeats 12800000 in
theorem walk (a0:Option Addr) (len0 cap0:Nat) (z0:List (List Int)) (a1:Int) (w:World) (w0:RowsIn w a0 len0 cap0 z0) (rch0:(∀ i,i≤len0→(∀ j,j < i→(z0.getD j []).length=64)→i≤16384)∧len0≤1048576) (w1:(Lit.int .i64 a1).wf=true) :
    Calls Tryz.prog 3 #[.slice a0 len0 cap0,.int .i64 a1] w fun e w'=>e=.returned (.bool true)∧Below w.heap.size w w':=by
  obtain ⟨hr1,hr2⟩:=rch0
  have hi1:=wf_i64 w1
  have cO:=iopen_any w w0 (fun i hi h=>by have:=hr1 i hi h;omega) (by omega)
  have HX:=Lib.hid w0
  have CR:Hid (∀ W,Below w.heap.size w W→Calls Tryz.prog 6 #[.slice a0 len0 cap0] W (ROpenDone W z0 a0 len0 cap0)):=Lib.hid (fun W (hb:Below w.heap.size w W)=>ROpen17_any W (HX.out.later hb) (by omega))
  clear w0 w1 hr1 hr2 HX
  cases ho:openB z0 with
  | false=>
    have cO2:Calls Tryz.prog 5 #[.slice a0 len0 cap0] w fun e w'=>e=.returned (.tuple #[.pointer none,.int .i64 2])∧Below w.heap.size w w':=cO.mono (by
      rintro e w' ⟨h | h,hb⟩
      · rw [ho] at h;exact absurd h.1 (by decide)
      · exact ⟨h.2,hb⟩)
    have CR2:Hid (∀ W,Below w.heap.size w W→Calls Tryz.prog 6 #[.slice a0 len0 cap0] W fun e w'=>e=.returned (.tuple #[.pointer none,.bool false])∧Below W.heap.size W w'):=Lib.hid (fun W hW=>(CR.out W hW).mono (by
      rintro e w' ⟨h | h,hb⟩
      · rw [ho] at h;exact absurd h.1 (by decide)
      · exact ⟨h.2,hb⟩))
    clear cO CR ho
    go_enter Tryz.func3,Tryz.ntmps3
    go_wp2_with (first
      | (go_at_call 5;refine cO2.mono ?_;rintro e w1 ⟨rfl,hb⟩;have H1:=Lib.hid hb;clear hb cO2)
      | (go_at_call 6;refine (CR2.out _ H1.out).mono ?_;rintro e w2 ⟨rfl,hb⟩;have H2:=Lib.hid (H1.out.trans (hb.mono H1.out.size));clear hb CR2)
      | (go_at_call 7;refine (awake17_any _).mono ?_;rintro e w3 ⟨rfl,hb⟩;have H3:=Lib.hid (H2.out.trans (hb.mono H2.out.size));clear hb))
    go_ret
    exact ⟨rfl,H3.out⟩
  | true=>
    obtain ⟨hV,hR⟩:=open_vol ho
    obtain ⟨k,hk,h480,hend⟩:=hV.limit
    have cO2:Calls Tryz.prog 5 #[.slice a0 len0 cap0] w fun e w'=>∃ a F,e=.returned (.tuple #[.pointer (some a),.int .i64 0])∧ImgI w' a F ⟨z0,z0,z0⟩∧(∀ k,F k→w.heap.size≤k)∧Below w.heap.size w w':=cO.mono (by
      rintro e w' ⟨h | h,hb⟩
      · obtain ⟨_,a,F,he,hI,hF⟩:=h
        exact ⟨a,F,he,hI,hF,hb⟩
      · rw [ho] at h;exact absurd h.1 (by decide))
    have CR2:Hid (∀ W,Below w.heap.size w W→Calls Tryz.prog 6 #[.slice a0 len0 cap0] W fun e w'=>∃ p,e=.returned (.tuple #[.pointer (some ⟨p,0,none⟩),.bool true])∧VolAt w' p z0 a0 len0 cap0∧Below W.heap.size W w'):=Lib.hid (fun W hW=>(CR.out W hW).mono (by
      rintro e w' ⟨h | h,hb⟩
      · obtain ⟨_,p,he,hv,_⟩:=h
        exact ⟨p,he,hv,hb⟩
      · rw [ho] at h;exact absurd h.1 (by decide)))
    have HLim:Hid (∀ W p,VolAt W p z0 a0 len0 cap0→Calls Tryz.prog 10 #[.pointer (some ⟨p,0,none⟩)] W fun e w'=>e=.returned (.int .i64 (k:Int))∧Below W.heap.size W w'):=Lib.hid (fun W p h=>by
      have c:=RLimit_any h
      rw [hk] at c
      exact c)
    obtain ⟨d,hd⟩:∃ d,freeB z0=d:=⟨_,rfl⟩
    have HFree:Hid (∀ W p,VolAt W p z0 a0 len0 cap0→Calls Tryz.prog 9 #[.pointer (some ⟨p,0,none⟩)] W fun e w'=>e=.returned (.int .i64 d)∧Below W.heap.size W w'):=Lib.hid (fun W p h=>by
      have c:=RFree_any h hV
      rw [hd] at c
      exact c)
    clear cO CR
    by_cases hneg:a1 < 0
    · have HT:Hid (∀ W a F,ImgI W a F ⟨z0,z0,z0⟩→Calls Tryz.prog 8 #[.pointer (some a),.int .i64 a1] W fun e w'=>e=.returned (.tuple #[.slice none 0 0,.int .i64 1])∧W=w'):=Lib.hid (fun W a F h=>itake_neg h a1 hneg)
      clear hV hR hk hend h480 hd ho hi1
      go_enter Tryz.func3,Tryz.ntmps3
      go_wp2_with (first
        | (go_at_call 5;refine cO2.mono ?_;rintro e w1 ⟨a,F,rfl,hI,hF,hb⟩;have H1:=Lib.hid (And.intro hI (And.intro hF hb));clear hI hF hb cO2)
        | (go_at_call 6;refine (CR2.out _ H1.out.2.2).mono ?_;rintro e w2 ⟨p,rfl,hv,hb⟩;have H2:Hid (Both w w2 a F ⟨z0,z0,z0⟩ p z0 a0 len0 cap0):=Lib.hid ⟨H1.out.1.later hb,hv,H1.out.2.2.trans (hb.mono H1.out.2.2.size),H1.out.2.1⟩;clear hb hv CR2 H1)
        | (go_at_call 7;refine (awake17_any _).mono ?_;rintro e w3 ⟨rfl,hb⟩;have H3:=Lib.hid (H2.out.later hb);clear hb H2)
        | (go_at_call 8;refine (HT.out _ _ _ H3.out.img).mono ?_;rintro e w4 ⟨rfl,rfl⟩;clear HT))
      go_ret
      exact ⟨rfl,H3.out.bel⟩
    · obtain ⟨n,hn⟩:∃ n:Nat,a1=n:=⟨a1.toNat,by omega⟩
      subst hn
      by_cases hmore:d < (n:Int)
      · have HT:Hid (∀ W a F,ImgI W a F ⟨z0,z0,z0⟩→Calls Tryz.prog 8 #[.pointer (some a),.int .i64 (n:Int)] W fun e w'=>∃ ao c,e=.returned (.tuple #[.slice ao 0 c,.int .i64 6])∧(∃ I,ImgI w' a F I)∧Grew F F W w'):=Lib.hid (fun W a F h=>by
          refine (take_i n (by omega) h hV).mono ?_
          rintro e w' ⟨v,rfl,hv,hI,hg⟩
          have hno:=takeE_no (B:=z0) (n:=n) (by rw [hd];exact hmore)
          rw [show (⟨z0,z0,z0⟩:Img).bl=z0 from rfl,hno.2] at hv
          rw [show (⟨z0,z0,z0⟩:Img).bl=z0 from rfl,hno.1]
          obtain ⟨ao,c,rfl,_⟩:=hv
          exact ⟨ao,c,rfl,⟨_,hI⟩,hg⟩)
        have i1:¬ (n:Int) < 0:=by omega
        clear hV hR hk hend h480 hd ho hi1 hneg
        go_enter Tryz.func3,Tryz.ntmps3
        go_wp2_with (first
          | (go_at_call 5;refine cO2.mono ?_;rintro e w1 ⟨a,F,rfl,hI,hF,hb⟩;have H1:=Lib.hid (And.intro hI (And.intro hF hb));clear hI hF hb cO2)
          | (go_at_call 6;refine (CR2.out _ H1.out.2.2).mono ?_;rintro e w2 ⟨p,rfl,hv,hb⟩;have H2:Hid (Both w w2 a F ⟨z0,z0,z0⟩ p z0 a0 len0 cap0):=Lib.hid ⟨H1.out.1.later hb,hv,H1.out.2.2.trans (hb.mono H1.out.2.2.size),H1.out.2.1⟩;clear hb hv CR2 H1)
          | (go_at_call 7;refine (awake17_any _).mono ?_;rintro e w3 ⟨rfl,hb⟩;have H3:=Lib.hid (H2.out.later hb);clear hb H2)
          | (go_at_call 8;refine (HT.out _ _ _ H3.out.img).mono ?_;rintro e w4 ⟨lo,lc,rfl,hI,hg⟩;have H4:=Lib.hid (And.intro (H3.out.vol.grew H3.out.img hg) (hg.below H3.out.bel H3.out.bel.size H3.out.foot));clear HT hI hg)
          | (go_at_call 9;refine (HFree.out _ _ H4.out.1).mono ?_;rintro e w5 ⟨rfl,hb⟩;have H5:=Lib.hid (H4.out.2.trans (hb.mono H4.out.2.size));clear hb HFree))
        go_ret
        exact ⟨rfl,H5.out⟩
      · have h60:(flagsAt z0).length=60:=by
          have h64:=hR 2 (by have:=hV.n64;omega)
          unfold flagsAt
          rw [List.length_take,h64]
          rfl
        obtain ⟨L,hT⟩:=take_is hV hend h60 (n:=n) (by omega)
        obtain ⟨T,hTd⟩:∃ T,takeB z0 n=T:=⟨_,rfl⟩
        have hTis:=hT.is
        have hVT:=hT.vol
        have hFT:=hT.free
        have hTl:=hT.blen
        have hEach:=hT.each
        rw [hTd] at hVT hFT hTl hEach
        rw [hd] at hFT
        have hRT:R64 T:=by
          rw [← hTd]
          unfold takeB
          split
          · exact hR.withFlags _
          · exact hR
        have hoT:=vol_open hVT hRT
        have h64T:=hVT.n64
        obtain ⟨nn,hnn⟩:∃ nn,T.length=nn:=⟨_,rfl⟩
        rw [hnn] at h64T
        have HT:Hid (∀ W a F,ImgI W a F ⟨z0,z0,z0⟩→Calls Tryz.prog 8 #[.pointer (some a),.int .i64 (n:Int)] W fun e w'=>∃ ao c,e=.returned (.tuple #[.slice ao n c,.int .i64 0])∧IArg w' ao n c L∧ImgI w' a F ⟨T,z0,z0⟩∧Grew F F W w'):=Lib.hid (fun W a F h=>by
          refine (take_i n (by omega) h hV).mono ?_
          rintro e w' ⟨v,rfl,hv,hI,hg⟩
          rw [show (⟨z0,z0,z0⟩:Img).bl=z0 from rfl,hTis.2] at hv
          rw [show (⟨z0,z0,z0⟩:Img).bl=z0 from rfl,hTis.1]
          obtain ⟨ao,c,rfl,hA,_⟩:=hv
          rw [hT.len] at hA ⊢
          refine ⟨ao,c,rfl,hA,?_,hg⟩
          rw [← hTd]
          exact hI)
        have HBl:Hid (∀ W a F,ImgI W a F ⟨T,z0,z0⟩→Calls Tryz.prog 11 #[.pointer (some a)] W fun e w'=>∃ g cap,e=.returned (.slice (some ⟨g,0,none⟩) nn cap)∧RowsIn w' (some ⟨g,0,none⟩) nn cap T∧Below W.heap.size W w'):=Lib.hid (fun W a F h=>iblocks_rows h nn hnn (by omega))
        have HOT:Hid (∀ W ao c,RowsIn W ao nn c T→Calls Tryz.prog 6 #[.slice ao nn c] W fun e w'=>∃ p,e=.returned (.tuple #[.pointer (some ⟨p,0,none⟩),.bool true])∧VolAt w' p T ao nn c∧Below W.heap.size W w'):=Lib.hid (fun W ao c hX=>(ROpen17_any W hX (by omega)).mono (by
          rintro e w' ⟨h | h,hb⟩
          · obtain ⟨_,p,he,hv,_⟩:=h
            exact ⟨p,he,hv,hb⟩
          · rw [hoT] at h;exact absurd h.1 (by decide)))
        have HIF:Hid (∀ W a F,ImgI W a F ⟨T,z0,z0⟩→Calls Tryz.prog 12 #[.pointer (some a)] W fun e w'=>e=.returned (.int .i64 (d - (n:Int)))∧Below W.heap.size W w'):=Lib.hid (fun W a F h=>by
          have c:=free_any h hVT
          rw [show (⟨T,z0,z0⟩:Img).bl=T from rfl,hFT] at c
          exact c)
        have HEach:=Lib.hid hEach
        have HApart:=Lib.hid hT.apart
        have HOne:=Lib.hid hT.one
        have HLen:=Lib.hid hT.len
        have hd2:0≤d∧d≤1000:=by
          have h1:=hV.free_is hend
          have h2:=dnOf_small (flag (flagsAt z0)) (k:=max 59 k) (by omega)
          omega
        obtain ⟨f,hf⟩:∃ f,flagsAt z0=f:=⟨_,rfl⟩
        obtain ⟨f2,hf2⟩:∃ f2,flagsAt T=f2:=⟨_,rfl⟩
        rw [hf,hf2] at HEach
        rw [hf] at HOne
        have HF1:=Lib.hid hf
        have HF2:=Lib.hid hf2
        have i1:¬ (n:Int) < 0:=by omega
        have i2:¬ d < (n:Int):=hmore
        clear hV hR hk hend hd ho hi1 hneg h60 hT hTd hTis hVT hFT hTl hEach hRT hoT hnn hf hf2 hmore
        go_enter Tryz.func3,Tryz.ntmps3
        go_wp2_with (first
          | (go_at_call 5;refine cO2.mono ?_;rintro e w1 ⟨a,F,rfl,hI,hF,hb⟩;have H1:=Lib.hid (And.intro hI (And.intro hF hb));clear hI hF hb cO2)
          | (go_at_call 6;refine (CR2.out _ H1.out.2.2).mono ?_;rintro e w2 ⟨p,rfl,hv,hb⟩;have H2:Hid (Both w w2 a F ⟨z0,z0,z0⟩ p z0 a0 len0 cap0):=Lib.hid ⟨H1.out.1.later hb,hv,H1.out.2.2.trans (hb.mono H1.out.2.2.size),H1.out.2.1⟩;clear hb hv CR2 H1)
          | (go_at_call 7;refine (awake17_any _).mono ?_;rintro e w3 ⟨rfl,hb⟩;have H3:=Lib.hid (H2.out.later hb);clear hb H2)
          | (go_at_call 8;refine (HT.out _ _ _ H3.out.img).mono ?_;rintro e w4 ⟨lo,lc,rfl,hA,hI,hg⟩;have H4:Hid (Both w w4 a F ⟨T,z0,z0⟩ p z0 a0 len0 cap0∧IArg w4 lo n lc L):=Lib.hid ⟨⟨hI,H3.out.vol.grew H3.out.img hg,hg.below H3.out.bel H3.out.bel.size H3.out.foot,H3.out.foot⟩,hA⟩;clear HT hI hg hA H3)
          | (go_at_call 9;refine (HFree.out _ _ H4.out.1.vol).mono ?_;rintro e w5 ⟨rfl,hb⟩;have H5:=Lib.hid (And.intro (H4.out.1.later hb) (H4.out.2.later hb));clear hb H4))
        obtain ⟨g,cu,hp5,hu⟩:=H5.out.1.vol.up
        rw [HF1.out] at hu
        have P5:=Lib.hid hp5
        have U5:=Lib.hid hu
        clear hp5 hu
        have HJ0:Hid (LongI f 59 0 0∧Below w5.heap.size w5 w5):=Lib.hid ⟨LongI.start f,Below.refl _ _⟩
        go_loopw [11,12,13] (fun lv sv iv wr=>∃ i s l:Nat,59≤i∧i≤max 59 k∧lv=.int .i64 l∧sv=.int .i64 s∧iv=.int .i64 i∧Hid (LongI f i s l∧Below w5.heap.size w5 wr)) (fun _ _ iv _=>480 - (intOf iv).toNat)
        case atStart=>exact ⟨59,0,0,Nat.le_refl _,by omega,rfl,rfl,rfl,HJ0⟩
        case round=>
          obtain ⟨i,s,l,h59,hi,rfl,rfl,rfl,HJ⟩:=hrel
          clear HJ0
          have hs59:=HJ.out.1.le
          have hl59:=HJ.out.1.run.le
          have cL:=HLim.out wr p (H5.out.1.vol.later HJ.out.2)
          by_cases hlt:i < k
          · have i3:(i:Int) < (k:Int):=by omega
            have i4:(i:Int) < 480:=by omega
            have i5:i < 480:=by omega
            have u0:=U5.out i i5
            cases hfi:flag f i with
            | true=>
              have i6:¬ (l:Int) < 0:=by omega
              have HF:Hid (flag f i=true):=Lib.hid hfi
              rw [hfi] at u0
              clear hfi
              go_wp2_with (go_at_call 10;refine cL.mono ?_;rintro e w6 ⟨rfl,hb⟩;have HB6:=Lib.hid (HJ.out.2.trans (hb.mono HJ.out.2.size));have q5:=cell_later HB6.out P5.out;have q6:=cell_later HB6.out u0;clear hb cL)
              go_roundw
              case rel=>exact ⟨i+1,0,l,by omega,by omega,rfl,rfl,by go_num,Lib.hid ⟨HJ.out.1.up,HB6.out⟩⟩
              case measure=>simp [intOf];omega
            | false=>
              have HF:Hid (flag f i=false):=Lib.hid hfi
              rw [hfi] at u0
              clear hfi
              by_cases hgt:l < s+1
              · have i6:(l:Int) < (s:Int)+1:=by omega
                go_wp2_with (go_at_call 10;refine cL.mono ?_;rintro e w6 ⟨rfl,hb⟩;have HB6:=Lib.hid (HJ.out.2.trans (hb.mono HJ.out.2.size));have q5:=cell_later HB6.out P5.out;have q6:=cell_later HB6.out u0;clear hb cL)
                go_roundw
                case rel=>exact ⟨i+1,s+1,s+1,by omega,by omega,by go_num,by go_num,by go_num,Lib.hid ⟨HJ.out.1.more HF.out,HB6.out⟩⟩
                case measure=>simp [intOf];omega
              · have i6:¬ (l:Int) < (s:Int)+1:=by omega
                go_wp2_with (go_at_call 10;refine cL.mono ?_;rintro e w6 ⟨rfl,hb⟩;have HB6:=Lib.hid (HJ.out.2.trans (hb.mono HJ.out.2.size));have q5:=cell_later HB6.out P5.out;have q6:=cell_later HB6.out u0;clear hb cL)
                go_roundw
                case rel=>exact ⟨i+1,s+1,l,by omega,by omega,by go_num,by go_num,by go_num,Lib.hid ⟨HJ.out.1.down HF.out,HB6.out⟩⟩
                case measure=>simp [intOf];omega
          · have i3:¬ (i:Int) < (k:Int):=by omega
            have HRun:Hid (n≤l→RunIn f n (max 59 k)):=Lib.hid (fun h=>HJ.out.1.run.mono h (by omega))
            have hl480:l≤480:=by omega
            have H5b:Hid (Both w wr a F ⟨T,z0,z0⟩ p z0 a0 len0 cap0∧IArg wr lo n lc L):=Lib.hid ⟨H5.out.1.later HJ.out.2,H5.out.2.later HJ.out.2⟩
            clear hlt hi h59 hs59 hl59 HJ H5 P5 U5
            go_wp2_with (first
              | (go_at_call 10;refine cL.mono ?_;rintro e w6 ⟨rfl,hb⟩;have H6:=Lib.hid (And.intro (H5b.out.1.later hb) (H5b.out.2.later hb));clear hb cL H5b)
              | (go_at_call 11;refine (HBl.out _ _ _ H6.out.1.img).mono ?_;rintro e w7 ⟨bg,bc,rfl,hX,hb⟩;have H7:=Lib.hid (And.intro (H6.out.1.later hb) (And.intro (H6.out.2.later hb) hX));clear hb hX H6 HBl)
              | (go_at_call 6;refine (HOT.out _ _ _ H7.out.2.2).mono ?_;rintro e w8 ⟨p2,rfl,hv2,hb⟩;have H8:=Lib.hid (And.intro (H7.out.1.later hb) (And.intro (H7.out.2.1.later hb) hv2));clear hb hv2 H7 HOT)
              | (go_at_call 12;refine (HIF.out _ _ _ H8.out.1.img).mono ?_;rintro e w9 ⟨rfl,hb⟩;have H9:=Lib.hid (And.intro (H8.out.1.later hb) (And.intro (H8.out.2.1.later hb) (H8.out.2.2.later hb)));clear hb H8 HIF)
              | (go_at_call 9;refine (HFree.out _ _ H9.out.1.vol).mono ?_;rintro e w10 ⟨rfl,hb⟩;have H10:=Lib.hid (And.intro (H9.out.1.later hb) (And.intro (H9.out.2.1.later hb) (H9.out.2.2.later hb)));clear hb H9 HFree))
            obtain ⟨g,cu,hp5,hu⟩:=H10.out.1.vol.up
            obtain ⟨g3,cu3,hq5,hu3⟩:=H10.out.2.2.up
            rw [HF1.out] at hu
            rw [HF2.out] at hu3
            have P5:=Lib.hid hp5
            have U5:=Lib.hid hu
            have Q5:=Lib.hid hq5
            have V5:=Lib.hid hu3
            clear hp5 hu hq5 hu3
            have HJ0:Hid (Below w10.heap.size w10 w10):=Lib.hid (Below.refl _ _)
            go_loopw [16] (fun iv wr=>∃ i:Nat,i≤n∧iv=.int .i64 i∧Hid (Below w10.heap.size w10 wr)) (fun iv _=>n - (intOf iv).toNat)
            case atStart=>exact ⟨0,Nat.zero_le _,rfl,HJ0⟩
            case round=>
              obtain ⟨i,hin,rfl,HJ⟩:=hrel
              clear HJ0
              by_cases hlt:i < n
              · obtain ⟨x,hx⟩:∃ x,L[i]?=some x:=⟨_,List.getElem?_eq_getElem (by rw [HLen.out];exact hlt)⟩
                obtain ⟨x0,hx0⟩:∃ x,L[0]?=some x:=⟨_,List.getElem?_eq_getElem (by rw [HLen.out];omega)⟩
                obtain ⟨y,rfl,e1,e2,e3,e4⟩:=HEach.out i x hx
                obtain ⟨y0,rfl,f1,f2,-,-⟩:=HEach.out 0 x0 hx0
                have HOneI:Hid (n≤l→(y:Int)=(y0:Int)+(i:Int)):=Lib.hid (fun h=>HOne.out (HRun.out h) i _ _ hx hx0)
                have HXI:=Lib.hid hx
                obtain ⟨g2,og2,hg2,hc⟩:=H10.out.2.1.1.2.2.resolve_left (by omega)
                subst hg2
                have HC:=Lib.hid hc
                have c0:=hc 0 _ (ints_get hx0)
                have ci:=hc i _ (ints_get hx)
                rw [Nat.add_zero] at c0
                have u0:=U5.out y (by omega)
                have v0:=V5.out y (by omega)
                rw [e3] at u0
                rw [e4] at v0
                have HA:Hid (∀ W,Below w10.heap.size w10 W→W.cell? ⟨g2,og2+i,none⟩=some (.int .i64 (y:Int))∧W.cell? ⟨g2,og2,none⟩=some (.int .i64 (y0:Int))∧W.cell? ⟨p,5,none⟩=some (.slice (some ⟨g,0,none⟩) 480 cu)∧W.cell? ⟨g,y,none⟩=some (.bool false)∧W.cell? ⟨p2,5,none⟩=some (.slice (some ⟨g3,0,none⟩) 480 cu3)∧W.cell? ⟨g3,y,none⟩=some (.bool true)):=Lib.hid (fun W hW=>⟨cell_later hW ci,cell_later hW c0,cell_later hW P5.out,cell_later hW u0,cell_later hW Q5.out,cell_later hW v0⟩)
                obtain ⟨r1,r2,r3,r4,r5,r6⟩:=HA.out wr HJ.out
                have cL:=HLim.out wr p (H10.out.1.vol.later HJ.out)
                have j1:decide ((y:Int) < 59)=false:=decide_eq_false (by omega)
                have j2:decide ((k:Int)≤(y:Int))=false:=decide_eq_false (by omega)
                have j9:0 < n:=by omega
                have j10:decide (k≤y)=false:=decide_eq_false (by omega)
                have j11:decide (y < 59)=false:=decide_eq_false (by omega)
                have j3:(y:Int) < 480:=by omega
                have j4:(0:Int)≤(y:Int):=by omega
                have j5:(i:Int) < (n:Int):=by omega
                have j6:(0:Int) < (n:Int):=by omega
                have j7:y < k:=e2
                have j8:y0 < k:=f2
                have HBD:Hid (Below w10.heap.size w10 wr.drew):=Lib.hid HJ.out.drew
                have HK:=Lib.hid (fun W (hW:Below w10.heap.size w10 W)=>And.intro (HA.out W hW) (Lib.hid hW))
                clear hx hx0 hc c0 ci u0 v0 e3 e4 hlt
                have hway:(decide ((n:Int)≤(l:Int))=true∧decide (n≤l)=true∧(y0:Int)+(i:Int)=(y:Int))∨(decide ((n:Int)≤(l:Int))=false∧decide (n≤l)=false∧True):=by
                  by_cases hnl:n≤l
                  · exact Or.inl ⟨decide_eq_true (by omega),decide_eq_true hnl,(HOneI.out hnl).symm⟩
                  · exact Or.inr ⟨decide_eq_false (by omega),decide_eq_false hnl,True.intro⟩
                have m3:(y:Int) < (k:Int):=by omega
                have m5:IntKind.i64.wrap (y:Int)=(y:Int):=by rw [IntKind.wrap_i64];omega
                rcases hway with ⟨m1,m1n,m2⟩ | ⟨m1,m1n,m2⟩
                case' inl=>
                  go_wp2_with fail
                  refine wp_region_held_drew (S:=(fun W=>(W.cell? ⟨g2,og2+i,none⟩=some (.int .i64 (y:Int))∧W.cell? ⟨g2,og2,none⟩=some (.int .i64 (y0:Int))∧W.cell? ⟨p,5,none⟩=some (.slice (some ⟨g,0,none⟩) 480 cu)∧W.cell? ⟨g,y,none⟩=some (.bool false)∧W.cell? ⟨p2,5,none⟩=some (.slice (some ⟨g3,0,none⟩) 480 cu3)∧W.cell? ⟨g3,y,none⟩=some (.bool true))∧Hid (Below w10.heap.size w10 W))) (by kernel_rfl) (HK.out _ HBD.out) (fun hHeld=>?_)
                  refine wpAnyH_take (i:=0) (oi:=⟨some 119,_,_,_,_,_⟩) (v:=.slice (some ⟨g2,og2,none⟩) n lc) rfl (by kernel_rfl) (by kernel_rfl) (by kernel_rfl) (fun _ _ _ h=>h) (Or.inl ⟨by kernel_rfl,fun w _=>rfl⟩) (by assumption) ?_
                  try simp only [Act.put,List.setIfInBounds_toArray,List.set_cons_zero,List.set_cons_succ]
                  refine wpAnyH_take (i:=1) (oi:=⟨some 120,_,_,_,_,_⟩) (v:=.int .i64 (i:Int)) rfl (by kernel_rfl) (by kernel_rfl) (by kernel_rfl) (fun _ _ _ h=>h) (Or.inl ⟨by kernel_rfl,fun w _=>rfl⟩) (by assumption) ?_
                  try simp only [Act.put,List.setIfInBounds_toArray,List.set_cons_zero,List.set_cons_succ]
                  refine wpAnyH_take (i:=2) (oi:=⟨some 121,_,_,_,_,_⟩) (v:=.pointer (some ⟨g2,og2+i,none⟩)) rfl (by kernel_rfl) (by kernel_rfl) (by kernel_rfl) (fun _ _ _ h=>h) (Or.inl ⟨by kernel_rfl,by intro w _;go_simp;(try omega)⟩) (by assumption) ?_
                  try simp only [Act.put,List.setIfInBounds_toArray,List.set_cons_zero,List.set_cons_succ]
                  refine wpAnyH_take (i:=3) (oi:=⟨some 122,_,_,_,_,_⟩) (v:=.int .i64 (y:Int)) rfl (by kernel_rfl) (by kernel_rfl) (by kernel_rfl) (fun _ _ _ h=>h) (Or.inl ⟨by kernel_rfl,by intro w hSw;(try dsimp only at hSw);go_simp⟩) (by assumption) ?_
                  try simp only [Act.put,List.setIfInBounds_toArray,List.set_cons_zero,List.set_cons_succ]
                  refine wpAnyH_take (i:=4) (oi:=⟨some 123,_,_,_,_,_⟩) (v:=.bool false) rfl (by kernel_rfl) (by kernel_rfl) (by kernel_rfl) (fun _ _ _ h=>h) (Or.inl ⟨by kernel_rfl,by intro w _;go_simp;(try omega)⟩) (by assumption) ?_
                  try simp only [Act.put,List.setIfInBounds_toArray,List.set_cons_zero,List.set_cons_succ]
                  refine wpAnyH_take (i:=5) (oi:=⟨some 124,_,_,_,_,_⟩) (v:=.bool false) rfl (by kernel_rfl) (by kernel_rfl) (by kernel_rfl) (fun _ _ _ h=>h) (Or.inl ⟨by kernel_rfl,fun w _=>rfl⟩) (by assumption) ?_
                  try simp only [Act.put,List.setIfInBounds_toArray,List.set_cons_zero,List.set_cons_succ]
                  refine wpAnyH_take (i:=6) (oi:=⟨some 125,_,_,_,_,_⟩) (v:=.slice (some ⟨g2,og2,none⟩) n lc) rfl (by kernel_rfl) (by kernel_rfl) (by kernel_rfl) (fun _ _ _ h=>h) (Or.inl ⟨by kernel_rfl,fun w _=>rfl⟩) (by assumption) ?_
                  try simp only [Act.put,List.setIfInBounds_toArray,List.set_cons_zero,List.set_cons_succ]
                  refine wpAnyH_take (i:=7) (oi:=⟨some 126,_,_,_,_,_⟩) (v:=.int .i64 (i:Int)) rfl (by kernel_rfl) (by kernel_rfl) (by kernel_rfl) (fun _ _ _ h=>h) (Or.inl ⟨by kernel_rfl,fun w _=>rfl⟩) (by assumption) ?_
                  try simp only [Act.put,List.setIfInBounds_toArray,List.set_cons_zero,List.set_cons_succ]
                  refine wpAnyH_take (i:=8) (oi:=⟨some 127,_,_,_,_,_⟩) (v:=.pointer (some ⟨g2,og2+i,none⟩)) rfl (by kernel_rfl) (by kernel_rfl) (by kernel_rfl) (fun _ _ _ h=>h) (Or.inl ⟨by kernel_rfl,by intro w _;go_simp;(try omega)⟩) (by assumption) ?_
                  try simp only [Act.put,List.setIfInBounds_toArray,List.set_cons_zero,List.set_cons_succ]
                  refine wpAnyH_take (i:=9) (oi:=⟨some 128,_,_,_,_,_⟩) (v:=.int .i64 (y:Int)) rfl (by kernel_rfl) (by kernel_rfl) (by kernel_rfl) (fun _ _ _ h=>h) (Or.inl ⟨by kernel_rfl,by intro w hSw;(try dsimp only at hSw);go_simp⟩) (by assumption) ?_
                  try simp only [Act.put,List.setIfInBounds_toArray,List.set_cons_zero,List.set_cons_succ]
                  refine wpAnyH_take (i:=10) (oi:=⟨some 129,_,_,_,_,_⟩) (v:=.pointer (some ⟨p,0,none⟩)) rfl (by kernel_rfl) (by kernel_rfl) (by kernel_rfl) (fun _ _ _ h=>h) (Or.inl ⟨by kernel_rfl,fun w _=>rfl⟩) (by assumption) ?_
                  try simp only [Act.put,List.setIfInBounds_toArray,List.set_cons_zero,List.set_cons_succ]
                  refine wpAnyH_ready (rs:=[11]) (by kernel_rfl) (by simp) ?_
                  refine AllReadyH.cons (o:=⟨some 130,_,_,_,_,_⟩) rfl (fun K hK=>?_) AllReadyH.nil
                  go_simp
                  (go_at_call 10;refine (HLim.out _ _ (H10.out.1.vol.later HBD.out)).mono ?_;rintro e w11 ⟨rfl,hb⟩;have HB11:Hid (Below w10.heap.size w10 w11):=Lib.hid (HBD.out.trans (hb.mono HBD.out.size));clear hb)
                  refine hK.out _ _ ?_ (fun hHeld1=>?_)
                  · exact HK.out _ HB11.out
                  clear hK K
                  try simp only [Act.put,List.setIfInBounds_toArray,List.set_cons_zero,List.set_cons_succ]
                  refine wpAnyH_take (i:=12) (oi:=⟨some 131,_,_,_,_,_⟩) (v:=.bool false) rfl (by kernel_rfl) (by kernel_rfl) (by kernel_rfl) (fun _ _ _ h=>h) (Or.inl ⟨by kernel_rfl,by intro w _;go_simp;(try omega)⟩) (by assumption) ?_
                  try simp only [Act.put,List.setIfInBounds_toArray,List.set_cons_zero,List.set_cons_succ]
                  refine wpAnyH_take (i:=13) (oi:=⟨some 132,_,_,_,_,_⟩) (v:=.bool false) rfl (by kernel_rfl) (by kernel_rfl) (by kernel_rfl) (fun _ _ _ h=>h) (Or.inl ⟨by kernel_rfl,by intro w _;go_simp;(try omega)⟩) (by assumption) ?_
                  try simp only [Act.put,List.setIfInBounds_toArray,List.set_cons_zero,List.set_cons_succ]
                  refine wpAnyH_take (i:=14) (oi:=⟨some 133,_,_,_,_,_⟩) (v:=.bool false) rfl (by kernel_rfl) (by kernel_rfl) (by kernel_rfl) (fun _ _ _ h=>h) (Or.inl ⟨by kernel_rfl,fun w _=>rfl⟩) (by assumption) ?_
                  try simp only [Act.put,List.setIfInBounds_toArray,List.set_cons_zero,List.set_cons_succ]
                  refine wpAnyH_take (i:=15) (oi:=⟨some 134,_,_,_,_,_⟩) (v:=.pointer (some ⟨p,0,none⟩)) rfl (by kernel_rfl) (by kernel_rfl) (by kernel_rfl) (fun _ _ _ h=>h) (Or.inl ⟨by kernel_rfl,fun w _=>rfl⟩) (by assumption) ?_
                  try simp only [Act.put,List.setIfInBounds_toArray,List.set_cons_zero,List.set_cons_succ]
                  refine wpAnyH_take (i:=16) (oi:=⟨some 135,_,_,_,_,_⟩) (v:=.pointer (some ⟨p,0,none⟩)) rfl (by kernel_rfl) (by kernel_rfl) (by kernel_rfl) (fun _ _ _ h=>h) (Or.inl ⟨by kernel_rfl,by intro w _;go_simp;(try omega)⟩) (by assumption) ?_
                  try simp only [Act.put,List.setIfInBounds_toArray,List.set_cons_zero,List.set_cons_succ]
                  refine wpAnyH_take (i:=17) (oi:=⟨some 136,_,_,_,_,_⟩) (v:=.pointer (some ⟨p,5,none⟩)) rfl (by kernel_rfl) (by kernel_rfl) (by kernel_rfl) (fun _ _ _ h=>h) (Or.inl ⟨by kernel_rfl,by intro w _;go_simp;(try omega)⟩) (by assumption) ?_
                  try simp only [Act.put,List.setIfInBounds_toArray,List.set_cons_zero,List.set_cons_succ]
                  refine wpAnyH_take (i:=18) (oi:=⟨some 137,_,_,_,_,_⟩) (v:=.slice (some ⟨g,0,none⟩) 480 cu) rfl (by kernel_rfl) (by kernel_rfl) (by kernel_rfl) (fun _ _ _ h=>h) (Or.inl ⟨by kernel_rfl,by intro w hSw;(try dsimp only at hSw);go_simp⟩) (by assumption) ?_
                  try simp only [Act.put,List.setIfInBounds_toArray,List.set_cons_zero,List.set_cons_succ]
                  refine wpAnyH_take (i:=19) (oi:=⟨some 138,_,_,_,_,_⟩) (v:=.slice (some ⟨g2,og2,none⟩) n lc) rfl (by kernel_rfl) (by kernel_rfl) (by kernel_rfl) (fun _ _ _ h=>h) (Or.inl ⟨by kernel_rfl,fun w _=>rfl⟩) (by assumption) ?_
                  try simp only [Act.put,List.setIfInBounds_toArray,List.set_cons_zero,List.set_cons_succ]
                  refine wpAnyH_take (i:=20) (oi:=⟨some 139,_,_,_,_,_⟩) (v:=.int .i64 (i:Int)) rfl (by kernel_rfl) (by kernel_rfl) (by kernel_rfl) (fun _ _ _ h=>h) (Or.inl ⟨by kernel_rfl,fun w _=>rfl⟩) (by assumption) ?_
                  try simp only [Act.put,List.setIfInBounds_toArray,List.set_cons_zero,List.set_cons_succ]
                  refine wpAnyH_take (i:=21) (oi:=⟨some 140,_,_,_,_,_⟩) (v:=.pointer (some ⟨g2,og2+i,none⟩)) rfl (by kernel_rfl) (by kernel_rfl) (by kernel_rfl) (fun _ _ _ h=>h) (Or.inl ⟨by kernel_rfl,by intro w _;go_simp;(try omega)⟩) (by assumption) ?_
                  try simp only [Act.put,List.setIfInBounds_toArray,List.set_cons_zero,List.set_cons_succ]
                  refine wpAnyH_take (i:=22) (oi:=⟨some 141,_,_,_,_,_⟩) (v:=.int .i64 (y:Int)) rfl (by kernel_rfl) (by kernel_rfl) (by kernel_rfl) (fun _ _ _ h=>h) (Or.inl ⟨by kernel_rfl,by intro w hSw;(try dsimp only at hSw);go_simp⟩) (by assumption) ?_
                  try simp only [Act.put,List.setIfInBounds_toArray,List.set_cons_zero,List.set_cons_succ]
                  refine wpAnyH_take (i:=23) (oi:=⟨some 142,_,_,_,_,_⟩) (v:=.pointer (some ⟨g,y,none⟩)) rfl (by kernel_rfl) (by kernel_rfl) (by kernel_rfl) (fun _ _ _ h=>h) (Or.inl ⟨by kernel_rfl,by intro w _;go_simp;(try omega)⟩) (by assumption) ?_
                  try simp only [Act.put,List.setIfInBounds_toArray,List.set_cons_zero,List.set_cons_succ]
                  refine wpAnyH_take (i:=24) (oi:=⟨some 143,_,_,_,_,_⟩) (v:=.bool false) rfl (by kernel_rfl) (by kernel_rfl) (by kernel_rfl) (fun _ _ _ h=>h) (Or.inl ⟨by kernel_rfl,by intro w hSw;(try dsimp only at hSw);go_simp⟩) (by assumption) ?_
                  try simp only [Act.put,List.setIfInBounds_toArray,List.set_cons_zero,List.set_cons_succ]
                  refine wpAnyH_take (i:=25) (oi:=⟨some 144,_,_,_,_,_⟩) (v:=.bool false) rfl (by kernel_rfl) (by kernel_rfl) (by kernel_rfl) (fun _ _ _ h=>h) (Or.inl ⟨by kernel_rfl,by intro w _;go_simp;(try omega)⟩) (by assumption) ?_
                  try simp only [Act.put,List.setIfInBounds_toArray,List.set_cons_zero,List.set_cons_succ]
                  refine wpAnyH_take (i:=26) (oi:=⟨some 145,_,_,_,_,_⟩) (v:=.bool false) rfl (by kernel_rfl) (by kernel_rfl) (by kernel_rfl) (fun _ _ _ h=>h) (Or.inl ⟨by kernel_rfl,fun w _=>rfl⟩) (by assumption) ?_
                  try simp only [Act.put,List.setIfInBounds_toArray,List.set_cons_zero,List.set_cons_succ]
                  refine wpAnyH_take (i:=27) (oi:=⟨some 146,_,_,_,_,_⟩) (v:=.pointer (some ⟨p2,0,none⟩)) rfl (by kernel_rfl) (by kernel_rfl) (by kernel_rfl) (fun _ _ _ h=>h) (Or.inl ⟨by kernel_rfl,fun w _=>rfl⟩) (by assumption) ?_
                  try simp only [Act.put,List.setIfInBounds_toArray,List.set_cons_zero,List.set_cons_succ]
                  refine wpAnyH_take (i:=28) (oi:=⟨some 147,_,_,_,_,_⟩) (v:=.pointer (some ⟨p2,0,none⟩)) rfl (by kernel_rfl) (by kernel_rfl) (by kernel_rfl) (fun _ _ _ h=>h) (Or.inl ⟨by kernel_rfl,by intro w _;go_simp;(try omega)⟩) (by assumption) ?_
                  try simp only [Act.put,List.setIfInBounds_toArray,List.set_cons_zero,List.set_cons_succ]
                  refine wpAnyH_take (i:=29) (oi:=⟨some 148,_,_,_,_,_⟩) (v:=.pointer (some ⟨p2,5,none⟩)) rfl (by kernel_rfl) (by kernel_rfl) (by kernel_rfl) (fun _ _ _ h=>h) (Or.inl ⟨by kernel_rfl,by intro w _;go_simp;(try omega)⟩) (by assumption) ?_
                  try simp only [Act.put,List.setIfInBounds_toArray,List.set_cons_zero,List.set_cons_succ]
                  refine wpAnyH_take (i:=30) (oi:=⟨some 149,_,_,_,_,_⟩) (v:=.slice (some ⟨g3,0,none⟩) 480 cu3) rfl (by kernel_rfl) (by kernel_rfl) (by kernel_rfl) (fun _ _ _ h=>h) (Or.inl ⟨by kernel_rfl,by intro w hSw;(try dsimp only at hSw);go_simp⟩) (by assumption) ?_
                  try simp only [Act.put,List.setIfInBounds_toArray,List.set_cons_zero,List.set_cons_succ]
                  refine wpAnyH_take (i:=31) (oi:=⟨some 150,_,_,_,_,_⟩) (v:=.slice (some ⟨g2,og2,none⟩) n lc) rfl (by kernel_rfl) (by kernel_rfl) (by kernel_rfl) (fun _ _ _ h=>h) (Or.inl ⟨by kernel_rfl,fun w _=>rfl⟩) (by assumption) ?_
                  try simp only [Act.put,List.setIfInBounds_toArray,List.set_cons_zero,List.set_cons_succ]
                  refine wpAnyH_take (i:=32) (oi:=⟨some 151,_,_,_,_,_⟩) (v:=.int .i64 (i:Int)) rfl (by kernel_rfl) (by kernel_rfl) (by kernel_rfl) (fun _ _ _ h=>h) (Or.inl ⟨by kernel_rfl,fun w _=>rfl⟩) (by assumption) ?_
                  try simp only [Act.put,List.setIfInBounds_toArray,List.set_cons_zero,List.set_cons_succ]
                  refine wpAnyH_take (i:=33) (oi:=⟨some 152,_,_,_,_,_⟩) (v:=.pointer (some ⟨g2,og2+i,none⟩)) rfl (by kernel_rfl) (by kernel_rfl) (by kernel_rfl) (fun _ _ _ h=>h) (Or.inl ⟨by kernel_rfl,by intro w _;go_simp;(try omega)⟩) (by assumption) ?_
                  try simp only [Act.put,List.setIfInBounds_toArray,List.set_cons_zero,List.set_cons_succ]
                  refine wpAnyH_take (i:=34) (oi:=⟨some 153,_,_,_,_,_⟩) (v:=.int .i64 (y:Int)) rfl (by kernel_rfl) (by kernel_rfl) (by kernel_rfl) (fun _ _ _ h=>h) (Or.inl ⟨by kernel_rfl,by intro w hSw;(try dsimp only at hSw);go_simp⟩) (by assumption) ?_
                  try simp only [Act.put,List.setIfInBounds_toArray,List.set_cons_zero,List.set_cons_succ]
                  refine wpAnyH_take (i:=35) (oi:=⟨some 154,_,_,_,_,_⟩) (v:=.pointer (some ⟨g3,y,none⟩)) rfl (by kernel_rfl) (by kernel_rfl) (by kernel_rfl) (fun _ _ _ h=>h) (Or.inl ⟨by kernel_rfl,by intro w _;go_simp;(try omega)⟩) (by assumption) ?_
                  try simp only [Act.put,List.setIfInBounds_toArray,List.set_cons_zero,List.set_cons_succ]
                  refine wpAnyH_take (i:=36) (oi:=⟨some 155,_,_,_,_,_⟩) (v:=.bool true) rfl (by kernel_rfl) (by kernel_rfl) (by kernel_rfl) (fun _ _ _ h=>h) (Or.inl ⟨by kernel_rfl,by intro w hSw;(try dsimp only at hSw);go_simp⟩) (by assumption) ?_
                  try simp only [Act.put,List.setIfInBounds_toArray,List.set_cons_zero,List.set_cons_succ]
                  refine wpAnyH_take (i:=37) (oi:=⟨some 156,_,_,_,_,_⟩) (v:=.bool false) rfl (by kernel_rfl) (by kernel_rfl) (by kernel_rfl) (fun _ _ _ h=>h) (Or.inl ⟨by kernel_rfl,by intro w _;go_simp;(try omega)⟩) (by assumption) ?_
                  try simp only [Act.put,List.setIfInBounds_toArray,List.set_cons_zero,List.set_cons_succ]
                  refine wpAnyH_take (i:=38) (oi:=⟨some 157,_,_,_,_,_⟩) (v:=.bool false) rfl (by kernel_rfl) (by kernel_rfl) (by kernel_rfl) (fun _ _ _ h=>h) (Or.inl ⟨by kernel_rfl,by intro w _;go_simp;(try omega)⟩) (by assumption) ?_
                  try simp only [Act.put,List.setIfInBounds_toArray,List.set_cons_zero,List.set_cons_succ]
                  refine wpAnyH_take (i:=39) (oi:=⟨some 158,_,_,_,_,_⟩) (v:=.bool false) rfl (by kernel_rfl) (by kernel_rfl) (by kernel_rfl) (fun _ _ _ h=>h) (Or.inl ⟨by kernel_rfl,fun w _=>rfl⟩) (by assumption) ?_
                  try simp only [Act.put,List.setIfInBounds_toArray,List.set_cons_zero,List.set_cons_succ]
                  refine wpAnyH_take (i:=40) (oi:=⟨some 159,_,_,_,_,_⟩) (v:=.int .i64 (n:Int)) rfl (by kernel_rfl) (by kernel_rfl) (by kernel_rfl) (fun _ _ _ h=>h) (Or.inl ⟨by kernel_rfl,fun w _=>rfl⟩) (by assumption) ?_
                  try simp only [Act.put,List.setIfInBounds_toArray,List.set_cons_zero,List.set_cons_succ]
                  refine wpAnyH_take (i:=41) (oi:=⟨some 160,_,_,_,_,_⟩) (v:=.int .i64 (l:Int)) rfl (by kernel_rfl) (by kernel_rfl) (by kernel_rfl) (fun _ _ _ h=>h) (Or.inl ⟨by kernel_rfl,fun w _=>rfl⟩) (by assumption) ?_
                  try simp only [Act.put,List.setIfInBounds_toArray,List.set_cons_zero,List.set_cons_succ]
                  refine wpAnyH_take (i:=42) (oi:=⟨some 161,_,_,_,_,_⟩) (v:=.bool true) rfl (by kernel_rfl) (by kernel_rfl) (by kernel_rfl) (fun _ _ _ h=>h) (Or.inl ⟨by kernel_rfl,by intro w _;go_simp;(try omega)⟩) (by assumption) ?_
                  try simp only [Act.put,List.setIfInBounds_toArray,List.set_cons_zero,List.set_cons_succ]
                  refine wpAnyH_take (i:=43) (oi:=⟨some 162,_,_,_,_,_⟩) (v:=.bool true) rfl (by kernel_rfl) (by kernel_rfl) (by kernel_rfl) (fun _ _ _ h=>h) (Or.inl ⟨by kernel_rfl,fun w _=>rfl⟩) (by assumption) ?_
                  try simp only [Act.put,List.setIfInBounds_toArray,List.set_cons_zero,List.set_cons_succ]
                  refine wpAnyH_take (i:=44) (oi:=⟨some 163,_,_,_,_,_⟩) (v:=.slice (some ⟨g2,og2,none⟩) n lc) rfl (by kernel_rfl) (by kernel_rfl) (by kernel_rfl) (fun _ _ _ h=>h) (Or.inl ⟨by kernel_rfl,fun w _=>rfl⟩) (by assumption) ?_
                  try simp only [Act.put,List.setIfInBounds_toArray,List.set_cons_zero,List.set_cons_succ]
                  refine wpAnyH_take (i:=45) (oi:=⟨some 164,_,_,_,_,_⟩) (v:=.int .i64 (i:Int)) rfl (by kernel_rfl) (by kernel_rfl) (by kernel_rfl) (fun _ _ _ h=>h) (Or.inl ⟨by kernel_rfl,fun w _=>rfl⟩) (by assumption) ?_
                  try simp only [Act.put,List.setIfInBounds_toArray,List.set_cons_zero,List.set_cons_succ]
                  refine wpAnyH_take (i:=46) (oi:=⟨some 165,_,_,_,_,_⟩) (v:=.pointer (some ⟨g2,og2+i,none⟩)) rfl (by kernel_rfl) (by kernel_rfl) (by kernel_rfl) (fun _ _ _ h=>h) (Or.inl ⟨by kernel_rfl,by intro w _;go_simp;(try omega)⟩) (by assumption) ?_
                  try simp only [Act.put,List.setIfInBounds_toArray,List.set_cons_zero,List.set_cons_succ]
                  refine wpAnyH_take (i:=47) (oi:=⟨some 166,_,_,_,_,_⟩) (v:=.int .i64 (y:Int)) rfl (by kernel_rfl) (by kernel_rfl) (by kernel_rfl) (fun _ _ _ h=>h) (Or.inl ⟨by kernel_rfl,by intro w hSw;(try dsimp only at hSw);go_simp⟩) (by assumption) ?_
                  try simp only [Act.put,List.setIfInBounds_toArray,List.set_cons_zero,List.set_cons_succ]
                  refine wpAnyH_take (i:=48) (oi:=⟨some 167,_,_,_,_,_⟩) (v:=.slice (some ⟨g2,og2,none⟩) n lc) rfl (by kernel_rfl) (by kernel_rfl) (by kernel_rfl) (fun _ _ _ h=>h) (Or.inl ⟨by kernel_rfl,fun w _=>rfl⟩) (by assumption) ?_
                  try simp only [Act.put,List.setIfInBounds_toArray,List.set_cons_zero,List.set_cons_succ]
                  refine wpAnyH_take (i:=49) (oi:=⟨some 168,_,_,_,_,_⟩) (v:=.pointer (some ⟨g2,og2,none⟩)) rfl (by kernel_rfl) (by kernel_rfl) (by kernel_rfl) (fun _ _ _ h=>h) (Or.inl ⟨by kernel_rfl,by intro w _;go_simp;(try omega)⟩) (by assumption) ?_
                  try simp only [Act.put,List.setIfInBounds_toArray,List.set_cons_zero,List.set_cons_succ]
                  refine wpAnyH_take (i:=50) (oi:=⟨some 169,_,_,_,_,_⟩) (v:=.int .i64 (y0:Int)) rfl (by kernel_rfl) (by kernel_rfl) (by kernel_rfl) (fun _ _ _ h=>h) (Or.inl ⟨by kernel_rfl,by intro w hSw;(try dsimp only at hSw);go_simp⟩) (by assumption) ?_
                  try simp only [Act.put,List.setIfInBounds_toArray,List.set_cons_zero,List.set_cons_succ]
                  refine wpAnyH_take (i:=51) (oi:=⟨some 170,_,_,_,_,_⟩) (v:=.int .i64 (i:Int)) rfl (by kernel_rfl) (by kernel_rfl) (by kernel_rfl) (fun _ _ _ h=>h) (Or.inl ⟨by kernel_rfl,fun w _=>rfl⟩) (by assumption) ?_
                  try simp only [Act.put,List.setIfInBounds_toArray,List.set_cons_zero,List.set_cons_succ]
                  refine wpAnyH_take (i:=52) (oi:=⟨some 171,_,_,_,_,_⟩) (v:=.int .i64 (y:Int)) rfl (by kernel_rfl) (by kernel_rfl) (by kernel_rfl) (fun _ _ _ h=>h) (Or.inl ⟨by kernel_rfl,by intro w _;go_simp;(try omega)⟩) (by assumption) ?_
                  try simp only [Act.put,List.setIfInBounds_toArray,List.set_cons_zero,List.set_cons_succ]
                  refine wpAnyH_take (i:=53) (oi:=⟨some 172,_,_,_,_,_⟩) (v:=.bool false) rfl (by kernel_rfl) (by kernel_rfl) (by kernel_rfl) (fun _ _ _ h=>h) (Or.inl ⟨by kernel_rfl,by intro w _;go_simp;(try omega)⟩) (by assumption) ?_
                  try simp only [Act.put,List.setIfInBounds_toArray,List.set_cons_zero,List.set_cons_succ]
                  refine wpAnyH_take (i:=54) (oi:=⟨some 173,_,_,_,_,_⟩) (v:=.bool false) rfl (by kernel_rfl) (by kernel_rfl) (by kernel_rfl) (fun _ _ _ h=>h) (Or.inl ⟨by kernel_rfl,by intro w _;go_simp;(try omega)⟩) (by assumption) ?_
                  try simp only [Act.put,List.setIfInBounds_toArray,List.set_cons_zero,List.set_cons_succ]
                  refine wpAnyH_take (i:=55) (oi:=⟨some 174,_,_,_,_,_⟩) (v:=.bool false) rfl (by kernel_rfl) (by kernel_rfl) (by kernel_rfl) (fun _ _ _ h=>h) (Or.inl ⟨by kernel_rfl,by intro w _;go_simp;(try omega)⟩) (by assumption) ?_
                  try simp only [Act.put,List.setIfInBounds_toArray,List.set_cons_zero,List.set_cons_succ]
                  refine wpAnyH_done (by kernel_rfl) ?_ _
                case' inr=>
                  go_wp2_with fail
                  refine wp_region_held_drew (S:=(fun W=>(W.cell? ⟨g2,og2+i,none⟩=some (.int .i64 (y:Int))∧W.cell? ⟨g2,og2,none⟩=some (.int .i64 (y0:Int))∧W.cell? ⟨p,5,none⟩=some (.slice (some ⟨g,0,none⟩) 480 cu)∧W.cell? ⟨g,y,none⟩=some (.bool false)∧W.cell? ⟨p2,5,none⟩=some (.slice (some ⟨g3,0,none⟩) 480 cu3)∧W.cell? ⟨g3,y,none⟩=some (.bool true))∧Hid (Below w10.heap.size w10 W))) (by kernel_rfl) (HK.out _ HBD.out) (fun hHeld=>?_)
                  refine wpAnyH_take (i:=0) (oi:=⟨some 119,_,_,_,_,_⟩) (v:=.slice (some ⟨g2,og2,none⟩) n lc) rfl (by kernel_rfl) (by kernel_rfl) (by kernel_rfl) (fun _ _ _ h=>h) (Or.inl ⟨by kernel_rfl,fun w _=>rfl⟩) (by assumption) ?_
                  try simp only [Act.put,List.setIfInBounds_toArray,List.set_cons_zero,List.set_cons_succ]
                  refine wpAnyH_take (i:=1) (oi:=⟨some 120,_,_,_,_,_⟩) (v:=.int .i64 (i:Int)) rfl (by kernel_rfl) (by kernel_rfl) (by kernel_rfl) (fun _ _ _ h=>h) (Or.inl ⟨by kernel_rfl,fun w _=>rfl⟩) (by assumption) ?_
                  try simp only [Act.put,List.setIfInBounds_toArray,List.set_cons_zero,List.set_cons_succ]
                  refine wpAnyH_take (i:=2) (oi:=⟨some 121,_,_,_,_,_⟩) (v:=.pointer (some ⟨g2,og2+i,none⟩)) rfl (by kernel_rfl) (by kernel_rfl) (by kernel_rfl) (fun _ _ _ h=>h) (Or.inl ⟨by kernel_rfl,by intro w _;go_simp;(try omega)⟩) (by assumption) ?_
                  try simp only [Act.put,List.setIfInBounds_toArray,List.set_cons_zero,List.set_cons_succ]
                  refine wpAnyH_take (i:=3) (oi:=⟨some 122,_,_,_,_,_⟩) (v:=.int .i64 (y:Int)) rfl (by kernel_rfl) (by kernel_rfl) (by kernel_rfl) (fun _ _ _ h=>h) (Or.inl ⟨by kernel_rfl,by intro w hSw;(try dsimp only at hSw);go_simp⟩) (by assumption) ?_
                  try simp only [Act.put,List.setIfInBounds_toArray,List.set_cons_zero,List.set_cons_succ]
                  refine wpAnyH_take (i:=4) (oi:=⟨some 123,_,_,_,_,_⟩) (v:=.bool false) rfl (by kernel_rfl) (by kernel_rfl) (by kernel_rfl) (fun _ _ _ h=>h) (Or.inl ⟨by kernel_rfl,by intro w _;go_simp;(try omega)⟩) (by assumption) ?_
                  try simp only [Act.put,List.setIfInBounds_toArray,List.set_cons_zero,List.set_cons_succ]
                  refine wpAnyH_take (i:=5) (oi:=⟨some 124,_,_,_,_,_⟩) (v:=.bool false) rfl (by kernel_rfl) (by kernel_rfl) (by kernel_rfl) (fun _ _ _ h=>h) (Or.inl ⟨by kernel_rfl,fun w _=>rfl⟩) (by assumption) ?_
                  try simp only [Act.put,List.setIfInBounds_toArray,List.set_cons_zero,List.set_cons_succ]
                  refine wpAnyH_take (i:=6) (oi:=⟨some 125,_,_,_,_,_⟩) (v:=.slice (some ⟨g2,og2,none⟩) n lc) rfl (by kernel_rfl) (by kernel_rfl) (by kernel_rfl) (fun _ _ _ h=>h) (Or.inl ⟨by kernel_rfl,fun w _=>rfl⟩) (by assumption) ?_
                  try simp only [Act.put,List.setIfInBounds_toArray,List.set_cons_zero,List.set_cons_succ]
                  refine wpAnyH_take (i:=7) (oi:=⟨some 126,_,_,_,_,_⟩) (v:=.int .i64 (i:Int)) rfl (by kernel_rfl) (by kernel_rfl) (by kernel_rfl) (fun _ _ _ h=>h) (Or.inl ⟨by kernel_rfl,fun w _=>rfl⟩) (by assumption) ?_
                  try simp only [Act.put,List.setIfInBounds_toArray,List.set_cons_zero,List.set_cons_succ]
                  refine wpAnyH_take (i:=8) (oi:=⟨some 127,_,_,_,_,_⟩) (v:=.pointer (some ⟨g2,og2+i,none⟩)) rfl (by kernel_rfl) (by kernel_rfl) (by kernel_rfl) (fun _ _ _ h=>h) (Or.inl ⟨by kernel_rfl,by intro w _;go_simp;(try omega)⟩) (by assumption) ?_
                  try simp only [Act.put,List.setIfInBounds_toArray,List.set_cons_zero,List.set_cons_succ]
                  refine wpAnyH_take (i:=9) (oi:=⟨some 128,_,_,_,_,_⟩) (v:=.int .i64 (y:Int)) rfl (by kernel_rfl) (by kernel_rfl) (by kernel_rfl) (fun _ _ _ h=>h) (Or.inl ⟨by kernel_rfl,by intro w hSw;(try dsimp only at hSw);go_simp⟩) (by assumption) ?_
                  try simp only [Act.put,List.setIfInBounds_toArray,List.set_cons_zero,List.set_cons_succ]
                  refine wpAnyH_take (i:=10) (oi:=⟨some 129,_,_,_,_,_⟩) (v:=.pointer (some ⟨p,0,none⟩)) rfl (by kernel_rfl) (by kernel_rfl) (by kernel_rfl) (fun _ _ _ h=>h) (Or.inl ⟨by kernel_rfl,fun w _=>rfl⟩) (by assumption) ?_
                  try simp only [Act.put,List.setIfInBounds_toArray,List.set_cons_zero,List.set_cons_succ]
                  refine wpAnyH_ready (rs:=[11]) (by kernel_rfl) (by simp) ?_
                  refine AllReadyH.cons (o:=⟨some 130,_,_,_,_,_⟩) rfl (fun K hK=>?_) AllReadyH.nil
                  go_simp
                  (go_at_call 10;refine (HLim.out _ _ (H10.out.1.vol.later HBD.out)).mono ?_;rintro e w11 ⟨rfl,hb⟩;have HB11:Hid (Below w10.heap.size w10 w11):=Lib.hid (HBD.out.trans (hb.mono HBD.out.size));clear hb)
                  refine hK.out _ _ ?_ (fun hHeld1=>?_)
                  · exact HK.out _ HB11.out
                  clear hK K
                  try simp only [Act.put,List.setIfInBounds_toArray,List.set_cons_zero,List.set_cons_succ]
                  refine wpAnyH_take (i:=12) (oi:=⟨some 131,_,_,_,_,_⟩) (v:=.bool false) rfl (by kernel_rfl) (by kernel_rfl) (by kernel_rfl) (fun _ _ _ h=>h) (Or.inl ⟨by kernel_rfl,by intro w _;go_simp;(try omega)⟩) (by assumption) ?_
                  try simp only [Act.put,List.setIfInBounds_toArray,List.set_cons_zero,List.set_cons_succ]
                  refine wpAnyH_take (i:=13) (oi:=⟨some 132,_,_,_,_,_⟩) (v:=.bool false) rfl (by kernel_rfl) (by kernel_rfl) (by kernel_rfl) (fun _ _ _ h=>h) (Or.inl ⟨by kernel_rfl,by intro w _;go_simp;(try omega)⟩) (by assumption) ?_
                  try simp only [Act.put,List.setIfInBounds_toArray,List.set_cons_zero,List.set_cons_succ]
                  refine wpAnyH_take (i:=14) (oi:=⟨some 133,_,_,_,_,_⟩) (v:=.bool false) rfl (by kernel_rfl) (by kernel_rfl) (by kernel_rfl) (fun _ _ _ h=>h) (Or.inl ⟨by kernel_rfl,fun w _=>rfl⟩) (by assumption) ?_
                  try simp only [Act.put,List.setIfInBounds_toArray,List.set_cons_zero,List.set_cons_succ]
                  refine wpAnyH_take (i:=15) (oi:=⟨some 134,_,_,_,_,_⟩) (v:=.pointer (some ⟨p,0,none⟩)) rfl (by kernel_rfl) (by kernel_rfl) (by kernel_rfl) (fun _ _ _ h=>h) (Or.inl ⟨by kernel_rfl,fun w _=>rfl⟩) (by assumption) ?_
                  try simp only [Act.put,List.setIfInBounds_toArray,List.set_cons_zero,List.set_cons_succ]
                  refine wpAnyH_take (i:=16) (oi:=⟨some 135,_,_,_,_,_⟩) (v:=.pointer (some ⟨p,0,none⟩)) rfl (by kernel_rfl) (by kernel_rfl) (by kernel_rfl) (fun _ _ _ h=>h) (Or.inl ⟨by kernel_rfl,by intro w _;go_simp;(try omega)⟩) (by assumption) ?_
                  try simp only [Act.put,List.setIfInBounds_toArray,List.set_cons_zero,List.set_cons_succ]
                  refine wpAnyH_take (i:=17) (oi:=⟨some 136,_,_,_,_,_⟩) (v:=.pointer (some ⟨p,5,none⟩)) rfl (by kernel_rfl) (by kernel_rfl) (by kernel_rfl) (fun _ _ _ h=>h) (Or.inl ⟨by kernel_rfl,by intro w _;go_simp;(try omega)⟩) (by assumption) ?_
                  try simp only [Act.put,List.setIfInBounds_toArray,List.set_cons_zero,List.set_cons_succ]
                  refine wpAnyH_take (i:=18) (oi:=⟨some 137,_,_,_,_,_⟩) (v:=.slice (some ⟨g,0,none⟩) 480 cu) rfl (by kernel_rfl) (by kernel_rfl) (by kernel_rfl) (fun _ _ _ h=>h) (Or.inl ⟨by kernel_rfl,by intro w hSw;(try dsimp only at hSw);go_simp⟩) (by assumption) ?_
                  try simp only [Act.put,List.setIfInBounds_toArray,List.set_cons_zero,List.set_cons_succ]
                  refine wpAnyH_take (i:=19) (oi:=⟨some 138,_,_,_,_,_⟩) (v:=.slice (some ⟨g2,og2,none⟩) n lc) rfl (by kernel_rfl) (by kernel_rfl) (by kernel_rfl) (fun _ _ _ h=>h) (Or.inl ⟨by kernel_rfl,fun w _=>rfl⟩) (by assumption) ?_
                  try simp only [Act.put,List.setIfInBounds_toArray,List.set_cons_zero,List.set_cons_succ]
                  refine wpAnyH_take (i:=20) (oi:=⟨some 139,_,_,_,_,_⟩) (v:=.int .i64 (i:Int)) rfl (by kernel_rfl) (by kernel_rfl) (by kernel_rfl) (fun _ _ _ h=>h) (Or.inl ⟨by kernel_rfl,fun w _=>rfl⟩) (by assumption) ?_
                  try simp only [Act.put,List.setIfInBounds_toArray,List.set_cons_zero,List.set_cons_succ]
                  refine wpAnyH_take (i:=21) (oi:=⟨some 140,_,_,_,_,_⟩) (v:=.pointer (some ⟨g2,og2+i,none⟩)) rfl (by kernel_rfl) (by kernel_rfl) (by kernel_rfl) (fun _ _ _ h=>h) (Or.inl ⟨by kernel_rfl,by intro w _;go_simp;(try omega)⟩) (by assumption) ?_
                  try simp only [Act.put,List.setIfInBounds_toArray,List.set_cons_zero,List.set_cons_succ]
                  refine wpAnyH_take (i:=22) (oi:=⟨some 141,_,_,_,_,_⟩) (v:=.int .i64 (y:Int)) rfl (by kernel_rfl) (by kernel_rfl) (by kernel_rfl) (fun _ _ _ h=>h) (Or.inl ⟨by kernel_rfl,by intro w hSw;(try dsimp only at hSw);go_simp⟩) (by assumption) ?_
                  try simp only [Act.put,List.setIfInBounds_toArray,List.set_cons_zero,List.set_cons_succ]
                  refine wpAnyH_take (i:=23) (oi:=⟨some 142,_,_,_,_,_⟩) (v:=.pointer (some ⟨g,y,none⟩)) rfl (by kernel_rfl) (by kernel_rfl) (by kernel_rfl) (fun _ _ _ h=>h) (Or.inl ⟨by kernel_rfl,by intro w _;go_simp;(try omega)⟩) (by assumption) ?_
                  try simp only [Act.put,List.setIfInBounds_toArray,List.set_cons_zero,List.set_cons_succ]
                  refine wpAnyH_take (i:=24) (oi:=⟨some 143,_,_,_,_,_⟩) (v:=.bool false) rfl (by kernel_rfl) (by kernel_rfl) (by kernel_rfl) (fun _ _ _ h=>h) (Or.inl ⟨by kernel_rfl,by intro w hSw;(try dsimp only at hSw);go_simp⟩) (by assumption) ?_
                  try simp only [Act.put,List.setIfInBounds_toArray,List.set_cons_zero,List.set_cons_succ]
                  refine wpAnyH_take (i:=25) (oi:=⟨some 144,_,_,_,_,_⟩) (v:=.bool false) rfl (by kernel_rfl) (by kernel_rfl) (by kernel_rfl) (fun _ _ _ h=>h) (Or.inl ⟨by kernel_rfl,by intro w _;go_simp;(try omega)⟩) (by assumption) ?_
                  try simp only [Act.put,List.setIfInBounds_toArray,List.set_cons_zero,List.set_cons_succ]
                  refine wpAnyH_take (i:=26) (oi:=⟨some 145,_,_,_,_,_⟩) (v:=.bool false) rfl (by kernel_rfl) (by kernel_rfl) (by kernel_rfl) (fun _ _ _ h=>h) (Or.inl ⟨by kernel_rfl,fun w _=>rfl⟩) (by assumption) ?_
                  try simp only [Act.put,List.setIfInBounds_toArray,List.set_cons_zero,List.set_cons_succ]
                  refine wpAnyH_take (i:=27) (oi:=⟨some 146,_,_,_,_,_⟩) (v:=.pointer (some ⟨p2,0,none⟩)) rfl (by kernel_rfl) (by kernel_rfl) (by kernel_rfl) (fun _ _ _ h=>h) (Or.inl ⟨by kernel_rfl,fun w _=>rfl⟩) (by assumption) ?_
                  try simp only [Act.put,List.setIfInBounds_toArray,List.set_cons_zero,List.set_cons_succ]
                  refine wpAnyH_take (i:=28) (oi:=⟨some 147,_,_,_,_,_⟩) (v:=.pointer (some ⟨p2,0,none⟩)) rfl (by kernel_rfl) (by kernel_rfl) (by kernel_rfl) (fun _ _ _ h=>h) (Or.inl ⟨by kernel_rfl,by intro w _;go_simp;(try omega)⟩) (by assumption) ?_
                  try simp only [Act.put,List.setIfInBounds_toArray,List.set_cons_zero,List.set_cons_succ]
                  refine wpAnyH_take (i:=29) (oi:=⟨some 148,_,_,_,_,_⟩) (v:=.pointer (some ⟨p2,5,none⟩)) rfl (by kernel_rfl) (by kernel_rfl) (by kernel_rfl) (fun _ _ _ h=>h) (Or.inl ⟨by kernel_rfl,by intro w _;go_simp;(try omega)⟩) (by assumption) ?_
                  try simp only [Act.put,List.setIfInBounds_toArray,List.set_cons_zero,List.set_cons_succ]
                  refine wpAnyH_take (i:=30) (oi:=⟨some 149,_,_,_,_,_⟩) (v:=.slice (some ⟨g3,0,none⟩) 480 cu3) rfl (by kernel_rfl) (by kernel_rfl) (by kernel_rfl) (fun _ _ _ h=>h) (Or.inl ⟨by kernel_rfl,by intro w hSw;(try dsimp only at hSw);go_simp⟩) (by assumption) ?_
                  try simp only [Act.put,List.setIfInBounds_toArray,List.set_cons_zero,List.set_cons_succ]
                  refine wpAnyH_take (i:=31) (oi:=⟨some 150,_,_,_,_,_⟩) (v:=.slice (some ⟨g2,og2,none⟩) n lc) rfl (by kernel_rfl) (by kernel_rfl) (by kernel_rfl) (fun _ _ _ h=>h) (Or.inl ⟨by kernel_rfl,fun w _=>rfl⟩) (by assumption) ?_
                  try simp only [Act.put,List.setIfInBounds_toArray,List.set_cons_zero,List.set_cons_succ]
                  refine wpAnyH_take (i:=32) (oi:=⟨some 151,_,_,_,_,_⟩) (v:=.int .i64 (i:Int)) rfl (by kernel_rfl) (by kernel_rfl) (by kernel_rfl) (fun _ _ _ h=>h) (Or.inl ⟨by kernel_rfl,fun w _=>rfl⟩) (by assumption) ?_
                  try simp only [Act.put,List.setIfInBounds_toArray,List.set_cons_zero,List.set_cons_succ]
                  refine wpAnyH_take (i:=33) (oi:=⟨some 152,_,_,_,_,_⟩) (v:=.pointer (some ⟨g2,og2+i,none⟩)) rfl (by kernel_rfl) (by kernel_rfl) (by kernel_rfl) (fun _ _ _ h=>h) (Or.inl ⟨by kernel_rfl,by intro w _;go_simp;(try omega)⟩) (by assumption) ?_
                  try simp only [Act.put,List.setIfInBounds_toArray,List.set_cons_zero,List.set_cons_succ]
                  refine wpAnyH_take (i:=34) (oi:=⟨some 153,_,_,_,_,_⟩) (v:=.int .i64 (y:Int)) rfl (by kernel_rfl) (by kernel_rfl) (by kernel_rfl) (fun _ _ _ h=>h) (Or.inl ⟨by kernel_rfl,by intro w hSw;(try dsimp only at hSw);go_simp⟩) (by assumption) ?_
                  try simp only [Act.put,List.setIfInBounds_toArray,List.set_cons_zero,List.set_cons_succ]
                  refine wpAnyH_take (i:=35) (oi:=⟨some 154,_,_,_,_,_⟩) (v:=.pointer (some ⟨g3,y,none⟩)) rfl (by kernel_rfl) (by kernel_rfl) (by kernel_rfl) (fun _ _ _ h=>h) (Or.inl ⟨by kernel_rfl,by intro w _;go_simp;(try omega)⟩) (by assumption) ?_
                  try simp only [Act.put,List.setIfInBounds_toArray,List.set_cons_zero,List.set_cons_succ]
                  refine wpAnyH_take (i:=36) (oi:=⟨some 155,_,_,_,_,_⟩) (v:=.bool true) rfl (by kernel_rfl) (by kernel_rfl) (by kernel_rfl) (fun _ _ _ h=>h) (Or.inl ⟨by kernel_rfl,by intro w hSw;(try dsimp only at hSw);go_simp⟩) (by assumption) ?_
                  try simp only [Act.put,List.setIfInBounds_toArray,List.set_cons_zero,List.set_cons_succ]
                  refine wpAnyH_take (i:=37) (oi:=⟨some 156,_,_,_,_,_⟩) (v:=.bool false) rfl (by kernel_rfl) (by kernel_rfl) (by kernel_rfl) (fun _ _ _ h=>h) (Or.inl ⟨by kernel_rfl,by intro w _;go_simp;(try omega)⟩) (by assumption) ?_
                  try simp only [Act.put,List.setIfInBounds_toArray,List.set_cons_zero,List.set_cons_succ]
                  refine wpAnyH_take (i:=38) (oi:=⟨some 157,_,_,_,_,_⟩) (v:=.bool false) rfl (by kernel_rfl) (by kernel_rfl) (by kernel_rfl) (fun _ _ _ h=>h) (Or.inl ⟨by kernel_rfl,by intro w _;go_simp;(try omega)⟩) (by assumption) ?_
                  try simp only [Act.put,List.setIfInBounds_toArray,List.set_cons_zero,List.set_cons_succ]
                  refine wpAnyH_take (i:=39) (oi:=⟨some 158,_,_,_,_,_⟩) (v:=.bool false) rfl (by kernel_rfl) (by kernel_rfl) (by kernel_rfl) (fun _ _ _ h=>h) (Or.inl ⟨by kernel_rfl,fun w _=>rfl⟩) (by assumption) ?_
                  try simp only [Act.put,List.setIfInBounds_toArray,List.set_cons_zero,List.set_cons_succ]
                  refine wpAnyH_take (i:=40) (oi:=⟨some 159,_,_,_,_,_⟩) (v:=.int .i64 (n:Int)) rfl (by kernel_rfl) (by kernel_rfl) (by kernel_rfl) (fun _ _ _ h=>h) (Or.inl ⟨by kernel_rfl,fun w _=>rfl⟩) (by assumption) ?_
                  try simp only [Act.put,List.setIfInBounds_toArray,List.set_cons_zero,List.set_cons_succ]
                  refine wpAnyH_take (i:=41) (oi:=⟨some 160,_,_,_,_,_⟩) (v:=.int .i64 (l:Int)) rfl (by kernel_rfl) (by kernel_rfl) (by kernel_rfl) (fun _ _ _ h=>h) (Or.inl ⟨by kernel_rfl,fun w _=>rfl⟩) (by assumption) ?_
                  try simp only [Act.put,List.setIfInBounds_toArray,List.set_cons_zero,List.set_cons_succ]
                  refine wpAnyH_take (i:=42) (oi:=⟨some 161,_,_,_,_,_⟩) (v:=.bool false) rfl (by kernel_rfl) (by kernel_rfl) (by kernel_rfl) (fun _ _ _ h=>h) (Or.inl ⟨by kernel_rfl,by intro w _;go_simp;(try omega)⟩) (by assumption) ?_
                  try simp only [Act.put,List.setIfInBounds_toArray,List.set_cons_zero,List.set_cons_succ]
                  refine wpAnyH_take (i:=43) (oi:=⟨some 162,_,_,_,_,_⟩) (v:=.bool false) rfl (by kernel_rfl) (by kernel_rfl) (by kernel_rfl) (fun _ _ _ h=>h) (Or.inl ⟨by kernel_rfl,fun w _=>rfl⟩) (by assumption) ?_
                  try simp only [Act.put,List.setIfInBounds_toArray,List.set_cons_zero,List.set_cons_succ]
                  refine wpAnyH_take (i:=44) (oi:=⟨some 163,_,_,_,_,_⟩) (v:=undef) rfl (by kernel_rfl) (by kernel_rfl) (by kernel_rfl) (fun _ _ _ h=>h) (Or.inr ⟨by kernel_rfl,rfl⟩) (by assumption) ?_
                  try simp only [Act.put,List.setIfInBounds_toArray,List.set_cons_zero,List.set_cons_succ]
                  refine wpAnyH_take (i:=45) (oi:=⟨some 164,_,_,_,_,_⟩) (v:=undef) rfl (by kernel_rfl) (by kernel_rfl) (by kernel_rfl) (fun _ _ _ h=>h) (Or.inr ⟨by kernel_rfl,rfl⟩) (by assumption) ?_
                  try simp only [Act.put,List.setIfInBounds_toArray,List.set_cons_zero,List.set_cons_succ]
                  refine wpAnyH_take (i:=46) (oi:=⟨some 165,_,_,_,_,_⟩) (v:=undef) rfl (by kernel_rfl) (by kernel_rfl) (by kernel_rfl) (fun _ _ _ h=>h) (Or.inr ⟨by kernel_rfl,rfl⟩) (by assumption) ?_
                  try simp only [Act.put,List.setIfInBounds_toArray,List.set_cons_zero,List.set_cons_succ]
                  refine wpAnyH_take (i:=47) (oi:=⟨some 166,_,_,_,_,_⟩) (v:=undef) rfl (by kernel_rfl) (by kernel_rfl) (by kernel_rfl) (fun _ _ _ h=>h) (Or.inr ⟨by kernel_rfl,rfl⟩) (by assumption) ?_
                  try simp only [Act.put,List.setIfInBounds_toArray,List.set_cons_zero,List.set_cons_succ]
                  refine wpAnyH_take (i:=48) (oi:=⟨some 167,_,_,_,_,_⟩) (v:=undef) rfl (by kernel_rfl) (by kernel_rfl) (by kernel_rfl) (fun _ _ _ h=>h) (Or.inr ⟨by kernel_rfl,rfl⟩) (by assumption) ?_
                  try simp only [Act.put,List.setIfInBounds_toArray,List.set_cons_zero,List.set_cons_succ]
                  refine wpAnyH_take (i:=49) (oi:=⟨some 168,_,_,_,_,_⟩) (v:=undef) rfl (by kernel_rfl) (by kernel_rfl) (by kernel_rfl) (fun _ _ _ h=>h) (Or.inr ⟨by kernel_rfl,rfl⟩) (by assumption) ?_
                  try simp only [Act.put,List.setIfInBounds_toArray,List.set_cons_zero,List.set_cons_succ]
                  refine wpAnyH_take (i:=50) (oi:=⟨some 169,_,_,_,_,_⟩) (v:=undef) rfl (by kernel_rfl) (by kernel_rfl) (by kernel_rfl) (fun _ _ _ h=>h) (Or.inr ⟨by kernel_rfl,rfl⟩) (by assumption) ?_
                  try simp only [Act.put,List.setIfInBounds_toArray,List.set_cons_zero,List.set_cons_succ]
                  refine wpAnyH_take (i:=51) (oi:=⟨some 170,_,_,_,_,_⟩) (v:=undef) rfl (by kernel_rfl) (by kernel_rfl) (by kernel_rfl) (fun _ _ _ h=>h) (Or.inr ⟨by kernel_rfl,rfl⟩) (by assumption) ?_
                  try simp only [Act.put,List.setIfInBounds_toArray,List.set_cons_zero,List.set_cons_succ]
                  refine wpAnyH_take (i:=52) (oi:=⟨some 171,_,_,_,_,_⟩) (v:=undef) rfl (by kernel_rfl) (by kernel_rfl) (by kernel_rfl) (fun _ _ _ h=>h) (Or.inr ⟨by kernel_rfl,rfl⟩) (by assumption) ?_
                  try simp only [Act.put,List.setIfInBounds_toArray,List.set_cons_zero,List.set_cons_succ]
                  refine wpAnyH_take (i:=53) (oi:=⟨some 172,_,_,_,_,_⟩) (v:=undef) rfl (by kernel_rfl) (by kernel_rfl) (by kernel_rfl) (fun _ _ _ h=>h) (Or.inr ⟨by kernel_rfl,rfl⟩) (by assumption) ?_
                  try simp only [Act.put,List.setIfInBounds_toArray,List.set_cons_zero,List.set_cons_succ]
                  refine wpAnyH_take (i:=54) (oi:=⟨some 173,_,_,_,_,_⟩) (v:=.bool false) rfl (by kernel_rfl) (by kernel_rfl) (by kernel_rfl) (fun _ _ _ h=>h) (Or.inl ⟨by kernel_rfl,by intro w _;go_simp;(try omega)⟩) (by assumption) ?_
                  try simp only [Act.put,List.setIfInBounds_toArray,List.set_cons_zero,List.set_cons_succ]
                  refine wpAnyH_take (i:=55) (oi:=⟨some 174,_,_,_,_,_⟩) (v:=.bool false) rfl (by kernel_rfl) (by kernel_rfl) (by kernel_rfl) (fun _ _ _ h=>h) (Or.inl ⟨by kernel_rfl,by intro w _;go_simp;(try omega)⟩) (by assumption) ?_
                  try simp only [Act.put,List.setIfInBounds_toArray,List.set_cons_zero,List.set_cons_succ]
                  refine wpAnyH_done (by kernel_rfl) ?_ _
                all_goals
                  go_wp2_with fail
                  go_loopw [17] (fun kv wr=>∃ j:Nat,j≤i∧kv=.int .i64 j∧Hid (Below w10.heap.size w10 wr)) (fun kv _=>i - (intOf kv).toNat)
                  case atStart=>exact ⟨0,Nat.zero_le _,rfl,HB11⟩
                  case round=>
                    obtain ⟨j,hj,rfl,HJ2⟩:=hrel
                    clear HK r1 r2 r3 r4 r5 r6 m1 m1n m2
                    by_cases hji:j < i
                    · obtain ⟨z,hz⟩:∃ z,L[j]?=some z:=⟨_,List.getElem?_eq_getElem (by rw [HLen.out];omega)⟩
                      have hlz:=HApart.out i j _ _ hji HXI.out hz
                      have HCZ:Hid (∀ W,Below w10.heap.size w10 W→W.cell? ⟨g2,og2+j,none⟩=some (.int .i64 z)∧W.cell? ⟨g2,og2+i,none⟩=some (.int .i64 (y:Int))):=Lib.hid (fun W hW=>⟨cell_later hW (HC.out j _ (ints_get hz)),(HA.out W hW).1⟩)
                      obtain ⟨z',hz',-,-,-,-⟩:=HEach.out j z hz
                      subst hz'
                      have t1:(j:Int) < (i:Int):=by omega
                      have t2:(j:Int) < (n:Int):=by omega
                      have t3:((z':Int) == (y:Int))=false:=by simp;omega
                      have t4:(z' == y)=false:=by simp;omega
                      have t5:decide ((z':Int)=(y:Int))=false:=decide_eq_false (by omega)
                      have t6:decide (z'=y)=false:=decide_eq_false (by omega)
                      have HBD2:Hid (Below w10.heap.size w10 wr.drew):=Lib.hid HJ2.out.drew
                      have HK2:=Lib.hid (fun W (hW:Below w10.heap.size w10 W)=>And.intro (HCZ.out W hW) (Lib.hid hW))
                      clear hz hlz
                      go_wp2_with fail
                      go_region_held3 (fun W=>(W.cell? ⟨g2,og2+j,none⟩=some (.int .i64 (z':Int))∧W.cell? ⟨g2,og2+i,none⟩=some (.int .i64 (y:Int)))∧Hid (Below w10.heap.size w10 W)) (exact HK2.out _ HBD2.out) (fail)
                      go_wp2_with fail
                      go_roundw
                      case rel=>exact ⟨j+1,by omega,by go_num,HBD2⟩
                      case measure=>simp [intOf];omega
                    · have hji2:j=i:=by omega
                      subst hji2
                      go_wp2_with fail
                      go_roundw
                      case rel=>exact ⟨j+1,by omega,by go_num,HJ2⟩
                      case measure=>simp [intOf];omega
              · have hin2:i=n:=by omega
                subst hin2
                go_wp2_with fail
                go_ret
                exact ⟨rfl,(H10.out.1.later HJ.out).bel⟩
/-! ### The law's step -/
set_option maxRecDepth 100000 in
theorem contract (H:Type) (enc:TypeId × Value→H) (W:World) (base:Nat) (args:Array Value) (ds gs:List (DataW H)) (before:List MemPlace)
    (hval0:∀ (j:Nat) t v,Tryz.f3.params[j]?=some t→args[j]?=some v→Value.okWide Tryz.prog W .any base t v)
    (hW:DataW.Whole enc Tryz.prog Tryz.f3.params.toList Rows.imageTakesSpec.vars false W args.toList ds gs before)
    (hsz0:(DataW.weightsEach Tryz.prog (Tryz.f3.params.toList ++ (OpenSpec.ofChange Rows.imageTakesSpec).bare.plain.varTypes Tryz.prog) (ds ++ gs)).all (·≤reachBytes)=true) (hk0:Rows.uptoSmall H (ds ++ gs)=true) :
    Calls Tryz.prog 3 args W fun e W'=>∃ v,e=.returned v∧Rows.imageTakesSpec.post enc Tryz.prog Tryz.f3 false true false false W args v W':=by
  have hsz:(DataW.weightsEach Tryz.prog (Tryz.f3.params.toList ++ Rows.imageTakesSpec.plain.varTypes Tryz.prog) (ds ++ gs)).all (·≤reachBytes)=true:=hsz0
  clear hsz0
  have hval:∀ (j:Nat) t v,Tryz.f3.params[j]?=some t→args[j]?=some v→Value.okWide Tryz.prog W .any base t v:=hval0
  have hW':=hW
  obtain ⟨p,q,hA0,hV,rfl,hfz,hnd⟩:=hW
  have hA:DataW.TrodAll enc Tryz.prog W 0 (fun _=>true) true Tryz.f3.params.toList args.toList ds p:=hA0
  rw [Tryz.params3] at hA hval hsz
  obtain ⟨v0,vs0,d0,ds0,p0,q0,hargs,rfl,rfl,h0,r0⟩:=trodAll_cons hA
  obtain ⟨v1,vs1,d1,ds1,p1,q1,rfl,rfl,rfl,h1,r1⟩:=trodAll_cons r0
  obtain ⟨rfl,rfl,rfl⟩:=trodAll_nil r1
  obtain rfl:args=#[v0,v1]:=by cases args;simp_all
  obtain ⟨rfl,rfl⟩:=trodVars_none hV
  have hB:Rows.uptoBulkAll ([d0,d1]:List (DataW H))≤1048576:=of_decide_eq_true hk0
  simp only [Rows.uptoBulkAll] at hB
  have k0:=h0
  have lt0:∀ x ∈ p0,x.block < W.heap.size:=by obtain ⟨m,hm⟩:=k0;exact DataW.trod_lt m _ _ _ hm
  obtain ⟨a0,len0,cap0,rfl⟩:=okWide_slice Tryz.underlying22 (hval 0 22 v0 rfl rfl)
  obtain ⟨z0,w0,hb0,hl0⟩:=open_rows_upto k0
  have rch0:(∀ i,i≤len0→(∀ j,j < i→(z0.getD j []).length=64)→i≤16384)∧len0≤1048576:=⟨fun i hi h=>by have:=hb0 i hi h;omega,by omega⟩
  have k1:=h1
  have lt1:∀ x ∈ p1,x.block < W.heap.size:=by obtain ⟨m,hm⟩:=k1;exact DataW.trod_lt m _ _ _ hm
  obtain ⟨a1,rfl,_,_,w1⟩:=open_int Tryz.underlying3 (hval 1 3 v1 rfl rfl) h1
  clear hA0 hval0
  refine (walk a0 len0 cap0 z0 a1 W w0 rch0 w1).mono fun e W' ⟨he,bel⟩=>?_
  subst he
  exact ⟨_,rfl,_,_,_,[],_,[],hW',trodAll_mk1 (shut_bool Tryz.underlying4 _),(trodAll_cons_mk (Below.trod laidOut (by kernel_rfl) (of_decide_eq_true (by kernel_rfl)) k0 bel lt0) (trodAll_cons_mk (Below.trod laidOut (by kernel_rfl) (of_decide_eq_true (by kernel_rfl)) k1 bel lt1) trodAll_mk0)),rfl,bel.frame _,fun h=>by cases h⟩
noncomputable def laidWorld (os:Os):World:=World.laidAll Tryz.prog os Rows.imageTakesUptoRow.laid
theorem laid_met (os:Os):laidMetH Tryz.prog Rows.imageTakesUptoRow.laid ((laidWorld os).forCall (fun _ _=>0) ⟨#[],#[.slice none 0 0,.int .i64 0],[]⟩).memory:=by
  rw [MakeChecks.laidMetH_plain _ _ _ (by kernel_rfl)]
  exact laidMet_laidAll _ (by kernel_rfl) (by kernel_rfl)
set_option maxRecDepth 100000 in
theorem lifted (os:Os) (started:os.Started) (H:Type) (enc:TypeId × Value→H) (F:Stop.Interp) :
    ReturnsInHanded {} Tryz.checked os 3 .any ((Rows.OpenSpec.upto Rows.imageTakesSpec).preRow enc Tryz.prog Tryz.f3 Rows.imageTakesUptoRow.domain false Rows.imageTakesUptoRow.laid) (((Rows.OpenSpec.upto Rows.imageTakesSpec).at F).post enc Tryz.prog Tryz.f3 false true false false):=by
  obtain ⟨places,hx⟩:∃ places,DataW.whole enc Tryz.prog ((laidWorld os).forCall (fun _ _=>0) ⟨#[],#[.slice none 0 0,.int .i64 0],[]⟩).memory Tryz.f3.params.toList Rows.imageTakesSpec.vars false #[.slice none 0 0,.int .i64 0].toList 8=some ([.nil,.lit (.int .i64 0)],[],places):=⟨[],by kernel_rfl⟩
  refine returnsInHanded_of_row (C:=Tryz.checked) (s:=Rows.OpenSpec.upto Rows.imageTakesSpec) own started (by kernel_rfl) Tryz.func3
    (witness_row_at (enc:=enc) (C:=Tryz.checked) false (laidWorld os) #[.slice none 0 0,.int .i64 0] (World.laidAll_os _ _ _) (by kernel_rfl) (by kernel_rfl) (by kernel_rfl)
      (OpenSpec.preRow_of_cond 8 hx (by kernel_rfl) (fun k hk=>by cases hk;kernel_rfl) (by kernel_rfl) (laid_met os))) ?_
  intro W base args ds gs before hval hW _ hcond hsz _ _ _
  exact contract H enc W base args ds gs before hval hW hsz (hcond _ rfl)
theorem said:Rows.ImageTakesUptoSaid:=
  OpenClaim.holds_of_cond 3 Tryz.f3 rfl rfl rfl rfl rfl rfl rfl ⟨rfl,rfl,rfl,rfl,rfl⟩ rfl rfl rfl rfl rfl (by kernel_rfl) Tryz.func3 closed
    (of_decide_eq_true (by kernel_rfl)) (by unfold Func.isWrapper;first | (rw [if_pos (by decide +kernel)];kernel_rfl) | (rw [if_neg (by decide +kernel)];exact ⟨rfl,rfl⟩))
    (fun os started H enc _ F=>by rw [OpenClaim.pre_eq_preRow];exact lifted os started H enc F)
theorem plain (f:FuncId) (fn:Func) (hf:Tryz.pinned.checked.prog.funcNamed "drydock/drydocklaw17.ImageTakes" = some f) (hfn:Tryz.pinned.checked.prog.funcs[f]?=some fn) :
    false=Tryz.pinned.checked.prog.looks []∧∀ (j:Nat) t,fn.params[j]?=some t→Tryz.pinned.checked.prog.wantsStandIn t=false:=by
  obtain rfl:f=3:=Option.some.inj ((show Tryz.prog.funcNamed "drydock/drydocklaw17.ImageTakes" = some 3 by kernel_rfl).symm.trans hf) |>.symm
  obtain rfl:fn=Tryz.f3:=(Option.some.inj (Tryz.func3.symm.trans hfn)).symm
  refine ⟨by kernel_rfl,fun j t ht=>?_⟩
  rw [Tryz.params3] at ht
  match j,ht with
  | 0,ht=>
    obtain rfl:22=t:=Option.some.inj ht
    exact (show Tryz.prog.wantsStandIn 22=false by kernel_rfl)
  | 1,ht=>
    obtain rfl:3=t:=Option.some.inj ht
    exact (show Tryz.prog.wantsStandIn 3=false by kernel_rfl)
  | _+2,ht=>simp at ht
theorem proved:Rows.ImageTakesUptoCardSaid:=
  Claim7.holds_tied_plain_at .later [] _ _ _ _ said (fun _ h=>by cases h) (by kernel_rfl) (fun _ h=>by cases h) imageTakesUpto_row_tie rfl ⟨rfl,rfl⟩ (by kernel_rfl) rfl plain (by kernel_rfl)
end Go.Proofs.YtcefmpnijjcekaaGreatDoor.imageTakes
