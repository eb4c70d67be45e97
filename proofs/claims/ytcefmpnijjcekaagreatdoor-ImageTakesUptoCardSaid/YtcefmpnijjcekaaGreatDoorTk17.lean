/- Proved here: what the document's own Extents (drydockref09) answers. The conditions stand at each theorem. Proved here: what the document's own SameExtents answers, of two lists of the same extents, and of one against none. The conditions stand at each theorem. Proved here: what the document's own Same answers, of a node and the empty one, and of two nodes that are one. The .. -/
import Derived.Test.YtcefmpnijjcekaaGreatDoorTk16
import Derived.Test.YtcefmpnijjcekaaGreatDoorTk4
import Derived.Test.YtcefmpnijjcekaaGreatDoorTk1
set_option linter.unusedVariables false
set_option linter.unusedSimpArgs false
namespace Go.Proofs.YtcefmpnijjcekaaGreatDoor
open Go.RowKit
def inX (y:PX) (n:Int):Bool:=decide (y.f≤n∧n < y.f+y.c)
def inAny (l:List PX) (n:Int):Bool:=l.any fun y=>inX y n
theorem meets_iff (x y:PX):meetsX x y=true ↔ ∃ n,(x.f≤n∧n < x.f+x.c)∧inX y n=true:=by
  unfold meetsX meetN inX
  rw [decide_eq_true_iff]
  constructor
  · intro h
    refine ⟨max x.f y.f,by omega,decide_eq_true (by omega)⟩
  · rintro ⟨n,h1,h2⟩
    have h2:=of_decide_eq_true h2
    omega
theorem any_meets_iff (x:PX) (l:List PX):l.any (meetsX x)=true ↔ ∃ n,(x.f≤n∧n < x.f+x.c)∧inAny l n=true:=by
  rw [List.any_eq_true]
  unfold inAny
  constructor
  · rintro ⟨y,hy,h⟩
    obtain ⟨n,h1,h2⟩:=(meets_iff x y).1 h
    exact ⟨n,h1,List.any_eq_true.2 ⟨y,hy,h2⟩⟩
  · rintro ⟨n,h1,h2⟩
    obtain ⟨y,hy,h⟩:=List.any_eq_true.1 h2
    exact ⟨y,hy,(meets_iff x y).2 ⟨n,h1,h⟩⟩
theorem inAny_snoc (l:List PX) (x:PX) (n:Int):inAny (l ++ [x]) n=(inAny l n||inX x n):=by
  unfold inAny;rw [List.any_append];simp
theorem soundFrom_begin (l:List PX):soundFrom [] 0 (-1) l=soundFrom [] 0 0 l:=by
  cases l with
  | nil=>rfl
  | cons x r=>
    have h:okX 0 (-1) x=okX 0 0 x:=by
      unfold okX
      by_cases h59:59≤x.f
      · have e1:decide (x.a=0∧x.f=-1)=false:=decide_eq_false (by omega)
        have e2:decide (x.a=0∧x.f=0)=false:=decide_eq_false (by omega)
        rw [e1,e2]
      · rw [decide_eq_false h59];simp
    show (okX 0 (-1) x&&_)=(okX 0 0 x&&_)
    rw [h]
def DiskAre (w0:World) (g:Nat) (P:Nat→Bool) (wr:World):Prop:=
  Below w0.heap.size w0 wr∧(∀ n,n < 480→wr.cell? ⟨g,n,none⟩=some (.bool (P n)))∧∀ j,wr.frozen? ⟨g,j,none⟩=false
theorem DiskAre.later {w0 wr wx:World} {g:Nat} {P:Nat→Bool} (h:DiskAre w0 g P wr) (hb:Below wr.heap.size wr wx):DiskAre w0 g P wx:=by
  have hlt:g < wr.heap.size:=World.block_lt_of_cell? _ _ (h.2.1 0 (by decide))
  exact ⟨h.1.trans (hb.mono h.1.size),fun n hn=>cell_later hb (h.2.1 n hn),fun j=>by rw [hb.frozen (p:=⟨g,j,none⟩) hlt];exact h.2.2 j⟩
theorem DiskAre.set {w0 wr:World} {g k:Nat} {P:Nat→Bool} (h:DiskAre w0 g P wr) (hg:w0.heap.size≤g) (hk:k < 480):DiskAre w0 g (fun n=>if n=k then true else P n) (wr.setCell ⟨g,k,none⟩ (.bool true)):=by
  refine ⟨h.1.setCell (p:=⟨g,k,none⟩) hg _,fun n hn=>?_,fun j=>by simpa using h.2.2 j⟩
  show (wr.setCell ⟨g,k,none⟩ (.bool true)).cell? ⟨g,n,none⟩=some (.bool (if n=k then true else P n))
  by_cases e:n=k
  · subst e
    rw [if_pos rfl]
    exact World.cell?_setCell_same wr _ _ (h.2.1 n hn)
  · rw [if_neg e,World.cell?_setCell_other (h:=by intro e';exact e (by simpa using (congrArg Addr.off e').symm))]
    exact h.2.1 n hn
theorem DiskAre.congr {w0 wr:World} {g:Nat} {P Q:Nat→Bool} (h:DiskAre w0 g P wr) (he:∀ n,n < 480→P n=Q n):DiskAre w0 g Q wr:=
  ⟨h.1,fun n hn=>by rw [h.2.1 n hn,he n hn],h.2.2⟩
theorem elemBool9:Elem 37 4 (.bool false) 1:=⟨Tryz.underlying37,by kernel_rfl,rfl,by decide⟩
theorem disk_new (w:World):DiskAre w w.heap.size (fun _=>false) (w.alloc (.cells (madeCells (Value.bool false).cells 480) 4)):=by
  refine ⟨(Below.refl _ _).alloc (Nat.le_refl _) _,fun n hn=>?_,fun j=>by rw [World.frozen?_alloc_mark];simp⟩
  rw [World.cell?_alloc_new]
  show (madeCells #[Value.bool false] 480)[n]?=_
  simp [madeCells,hn,Nat.mod_one]
set_option maxRecDepth 100000 in
set_option maxHeartbeats 6400000 in
theorem Extents09_any {w:World} {ao:Option Addr} {m cap:Nat} {xs:List PX} (hX:XIs w ao m xs) (hs:∀ x ∈ xs,smallX x) :
    Calls Tryz.prog 150 #[.slice ao m cap] w fun e w'=>e=.returned (.bool (soundFrom [] 0 0 xs))∧Below w.heap.size w w':=by
  rw [← soundFrom_begin]
  have hm:=hX.2.1
  have HL:=Lib.hid hX
  have HSM:=Lib.hid hs
  have HWL:=Lib.hid hX.1
  have hmk:=run_make_vals elemBool9 w 480 (by decide)
  rw [show ((480:Nat):Int)=480 from rfl] at hmk
  have HD0:=Lib.hid (disk_new w)
  clear hX hs
  generalize w.alloc (.cells (madeCells (Value.bool false).cells 480) 4)=W1 at *
  obtain ⟨R,hR⟩:∃ R,soundFrom [] 0 (-1) xs=R:=⟨_,rfl⟩
  have HR:=Lib.hid hR
  rw [hR]
  clear hR
  go_enter Tryz.func150,Tryz.ntmps150
  go_wp2_with fail
  go_loopw [4,5,6] (fun ev bv iv wr=>∃ (i:Nat) (e b:Int),iv=.int .i64 (i:Int)∧ev=.int .i64 e∧bv=.int .i64 b∧i≤m∧(0≤e∧e≤600∧-1≤b∧b≤600)∧Hid (DiskAre w w.heap.size (fun n=>inAny (xs.take i) n) wr)∧Hid (R=soundFrom (xs.take i) e b (xs.drop i))) (fun _ _ iv _=>m - (intOf iv).toNat)
  case atStart=>exact ⟨0,0,-1,rfl,rfl,rfl,Nat.zero_le _,by decide,Lib.hid (HD0.out.congr (fun n _=>rfl)),Lib.hid (by rw [← HR.out];simp)⟩
  case round=>
    obtain ⟨i,e,b,rfl,rfl,rfl,hi,heb,HD,HF⟩:=hrel
    obtain ⟨w1,hw1⟩:∃ w1,w1=wr:=⟨_,rfl⟩
    subst hw1
    by_cases hlt:i < m
    · obtain ⟨g,off,x,p,q,rfl,hx,hmem,c1,c2,f1,f2⟩:=HL.out.at hlt
      have d1:w1.cell? ⟨g,off+i * 2,none⟩=some (.int .i64 x.a):=cell_later HD.out.1 c1
      have d2:w1.cell? ⟨g,off+i * 2+1,none⟩=some (.complex .f64 p q):=cell_later HD.out.1 c2
      have i1:(i:Int) < (m:Int):=by omega
      have hsx:=HSM.out x hmem
      have cP:=fun W=>Parts02_any p q x.f x.c W f1 f2 hsx.2
      have HN:Hid (R=(okX e b x&&(!((xs.take i).any (meetsX x))&&soundFrom (xs.take (i+1)) (x.a+x.c) (x.f+x.c) (xs.drop (i+1))))):=Lib.hid (by rw [HF.out,soundFrom_at hx])
      have HT1:=Lib.hid (take_at hx)
      have HMI:=Lib.hid (any_meets_iff x (xs.take i))
      have HGL:Hid (g < w.heap.size):=Lib.hid (World.block_lt_of_cell? _ _ c1)
      have HC1:Hid (∀ W,Below w1.heap.size w1 W→W.cell? ⟨g,off+i * 2,none⟩=some (.int .i64 x.a)):=Lib.hid (fun W hW=>cell_later hW (cell_later HD.out.1 c1))
      obtain ⟨⟨ha0,ha1⟩,hf0,hf1,hc0,hc1⟩:=hsx
      obtain ⟨a,f,c⟩:=x
      simp only at *
      clear hx c1 c2 f1 f2 hmem
      have hw96:IntKind.i64.wrap (96 - c)=96 - c:=by rw [IntKind.wrap_i64];omega
      by_cases hok:runOk f c=true
      case neg=>
        rw [Bool.not_eq_true] at hok;rw [hok] at cP
        have HA:Hid (R=false):=Lib.hid (by rw [HN.out];unfold okX;simp only;rw [hok];simp)
        go_wp2_with (go_at_call 151;refine (cP _).mono ?_;rintro e' w3 ⟨rfl,hb3⟩;have D3:=Lib.hid (HD.out.later hb3);have k1:=HC1.out w3 hb3;clear hb3)
        go_ret
        exact ⟨by rw [HA.out];rfl,D3.out.1⟩
      rw [hok] at cP
      by_cases hf:59≤f
      case neg=>
        have hf':f < 59:=by omega
        have HA:Hid (R=false):=Lib.hid (by rw [HN.out];unfold okX;simp only;rw [decide_eq_false hf];simp)
        go_wp2_with (go_at_call 151;refine (cP _).mono ?_;rintro e' w3 ⟨rfl,hb3⟩;have D3:=Lib.hid (HD.out.later hb3);have k1:=HC1.out w3 hb3;clear hb3)
        go_ret
        exact ⟨by rw [HA.out];rfl,D3.out.1⟩
      have hf':¬ f < 59:=by omega
      by_cases he:e≤a
      case neg=>
        have he':a < e:=by omega
        have HA:Hid (R=false):=Lib.hid (by rw [HN.out];unfold okX;simp only;rw [decide_eq_false (show ¬ (e≤a∧a≤96 - c) from fun h=>he h.1)];simp)
        go_wp2_with (go_at_call 151;refine (cP _).mono ?_;rintro e' w3 ⟨rfl,hb3⟩;have D3:=Lib.hid (HD.out.later hb3);have k1:=HC1.out w3 hb3;clear hb3)
        go_ret
        exact ⟨by rw [HA.out];rfl,D3.out.1⟩
      have he':¬ a < e:=by omega
      by_cases h96:a≤96 - c
      case neg=>
        have h96':96 - c < a:=by omega
        have HA:Hid (R=false):=Lib.hid (by rw [HN.out];unfold okX;simp only;rw [decide_eq_false (show ¬ (e≤a∧a≤96 - c) from fun h=>h96 h.2)];simp)
        go_wp2_with (go_at_call 151;refine (cP _).mono ?_;rintro e' w3 ⟨rfl,hb3⟩;have D3:=Lib.hid (HD.out.later hb3);have k1:=HC1.out w3 hb3;clear hb3)
        go_ret
        exact ⟨by rw [HA.out];rfl,D3.out.1⟩
      have h96':¬ 96 - c < a:=by omega
      have hrun:=runOk_true hok
      by_cases hab:a=e∧f=b
      case pos=>
        have HA:Hid (R=false):=Lib.hid (by rw [HN.out];unfold okX;simp only;rw [decide_eq_true hab];simp)
        obtain ⟨g1,g2⟩:=hab
        have z1:(a == e)=true:=by simp [g1]
        have z2:(f == b)=true:=by simp [g2]
        have z3:decide (a=e)=true:=by simp [g1]
        have z4:decide (f=b)=true:=by simp [g2]
        clear g1 g2
        go_wp2_with (go_at_call 151;refine (cP _).mono ?_;rintro e' w3 ⟨rfl,hb3⟩;have D3:=Lib.hid (HD.out.later hb3);have k1:=HC1.out w3 hb3;clear hb3)
        go_ret
        exact ⟨by rw [HA.out];rfl,D3.out.1⟩
      have HOK:Hid (R=(!((xs.take i).any (meetsX ⟨a,f,c⟩))&&soundFrom (xs.take (i+1)) (a+c) (f+c) (xs.drop (i+1)))):=Lib.hid (by
        rw [HN.out]
        unfold okX
        simp only
        rw [hok,decide_eq_true hf,decide_eq_true (And.intro he h96),decide_eq_false hab]
        rfl)
      clear hok
      have hz1:IntKind.i64.wrap (a+c)=a+c:=by rw [IntKind.wrap_i64];omega
      have hz2:IntKind.i64.wrap (f+c)=f+c:=by rw [IntKind.wrap_i64];omega
      by_cases hae:a=e
      · have hfb:¬ f=b:=fun h=>hab ⟨hae,h⟩
        have z1:(a == e)=true:=by simp [hae]
        have z2:(f == b)=false:=by simp [hfb]
        have z3:decide (a=e)=true:=by simp [hae]
        have z4:decide (f=b)=false:=by simp [hfb]
        clear hae hfb hab
        go_wp2_with (go_at_call 151;refine (cP _).mono ?_;rintro e' w3 ⟨rfl,hb3⟩;have D3:=Lib.hid (HD.out.later hb3);have k1:=HC1.out w3 hb3;clear hb3)
        go_loopw [10] (fun nv wr=>∃ n:Int,nv=.int .i64 n∧(f≤n∧n≤f+c)∧Hid (DiskAre w w.heap.size (fun k=>inAny (xs.take i) k||decide (f≤(k:Int)∧(k:Int) < n)) wr)∧Hid (∀ k:Int,f≤k→k < n→inAny (xs.take i) k=false)∧Hid (wr.cell? ⟨g,off+i * 2,none⟩=some (.int .i64 a))) (fun nv _=>(f+c - intOf nv).toNat)
        case atStart=>exact ⟨f,rfl,by omega,Lib.hid (D3.out.congr (fun k _=>by rw [decide_eq_false (by omega)];simp)),Lib.hid (fun k h1 h2=>by omega),Lib.hid k1⟩
        case round=>
          obtain ⟨n,rfl,hn,HDN,HQ,HK1⟩:=hrel
          have hwn:IntKind.i64.wrap (n+1)=n+1:=by rw [IntKind.wrap_i64];omega
          by_cases hnlt:n < f+c
          · have u1:=HDN.out.2.1 n.toNat (by omega)
            have u2:=HDN.out.2.2 n.toNat
            have hn0:(0:Int)≤n:=by omega
            have hn480:n < (480:Int):=by omega
            have hnn:((n.toNat:Nat):Int)=n:=by omega
            dsimp only at u1
            rw [hnn,decide_eq_false (show ¬ (f≤n∧n < n) by omega),Bool.or_false] at u1
            cases hb:inAny (xs.take i) n with
            | true=>
              rw [hb] at u1
              have HA:Hid (R=false):=Lib.hid (by rw [HOK.out,HMI.out.2 ⟨n,⟨hn.1,hnlt⟩,hb⟩];rfl)
              clear hb
              go_wp2_with fail
              go_ret
              exact ⟨by rw [HA.out];rfl,HDN.out.1⟩
            | false=>
              rw [hb] at u1
              have HB:=Lib.hid hb
              clear hb
              go_wp2_with fail
              go_roundw
              case rel=>exact ⟨n+1,by go_num,by omega,Lib.hid ((HDN.out.set (Nat.le_refl _) (k:=n.toNat) (by omega)).congr (fun k hk=>by
                  by_cases e:k=n.toNat
                  · subst e
                    rw [if_pos rfl,hnn,decide_eq_true (show f≤n∧n < n+1 by omega),Bool.or_true]
                  · rw [if_neg e]
                    congr 1
                    rw [Bool.eq_iff_iff,decide_eq_true_iff,decide_eq_true_iff]
                    omega)),Lib.hid (fun k h1 h2=>by
                  by_cases e:k=n
                  · rw [e];exact HB.out
                  · exact HQ.out k h1 (by omega)),Lib.hid (by rw [World.cell?_setCell_other (h:=by intro e;exact absurd (congrArg Addr.block e) (Nat.ne_of_gt HGL.out))];exact HK1.out)⟩
              case measure=>simp [intOf];omega
          · have hnf:n=f+c:=by omega
            subst hnf
            have HT:Hid (R=soundFrom (xs.take (i+1)) (a+c) (f+c) (xs.drop (i+1))):=Lib.hid (by
              have h:(xs.take i).any (meetsX ⟨a,f,c⟩)=false:=by
                rw [Bool.eq_false_iff]
                intro h
                obtain ⟨k,h1,h2⟩:=HMI.out.1 h
                rw [HQ.out k h1.1 h1.2] at h2
                cases h2
              rw [HOK.out,h]
              rfl)
            have v1:=HK1.out
            go_wp2_with fail
            go_roundw
            case rel=>exact ⟨i+1,a+c,f+c,by go_num,rfl,rfl,by omega,by omega,Lib.hid (HDN.out.congr (fun k _=>by rw [HT1.out,inAny_snoc];rfl)),HT⟩
            case measure=>simp [intOf];omega
      · have z1:(a == e)=false:=by simp [hae]
        have z3:decide (a=e)=false:=by simp [hae]
        clear hae hab
        go_wp2_with (go_at_call 151;refine (cP _).mono ?_;rintro e' w3 ⟨rfl,hb3⟩;have D3:=Lib.hid (HD.out.later hb3);have k1:=HC1.out w3 hb3;clear hb3)
        go_loopw [10] (fun nv wr=>∃ n:Int,nv=.int .i64 n∧(f≤n∧n≤f+c)∧Hid (DiskAre w w.heap.size (fun k=>inAny (xs.take i) k||decide (f≤(k:Int)∧(k:Int) < n)) wr)∧Hid (∀ k:Int,f≤k→k < n→inAny (xs.take i) k=false)∧Hid (wr.cell? ⟨g,off+i * 2,none⟩=some (.int .i64 a))) (fun nv _=>(f+c - intOf nv).toNat)
        case atStart=>exact ⟨f,rfl,by omega,Lib.hid (D3.out.congr (fun k _=>by rw [decide_eq_false (by omega)];simp)),Lib.hid (fun k h1 h2=>by omega),Lib.hid k1⟩
        case round=>
          obtain ⟨n,rfl,hn,HDN,HQ,HK1⟩:=hrel
          have hwn:IntKind.i64.wrap (n+1)=n+1:=by rw [IntKind.wrap_i64];omega
          by_cases hnlt:n < f+c
          · have u1:=HDN.out.2.1 n.toNat (by omega)
            have u2:=HDN.out.2.2 n.toNat
            have hn0:(0:Int)≤n:=by omega
            have hn480:n < (480:Int):=by omega
            have hnn:((n.toNat:Nat):Int)=n:=by omega
            dsimp only at u1
            rw [hnn,decide_eq_false (show ¬ (f≤n∧n < n) by omega),Bool.or_false] at u1
            cases hb:inAny (xs.take i) n with
            | true=>
              rw [hb] at u1
              have HA:Hid (R=false):=Lib.hid (by rw [HOK.out,HMI.out.2 ⟨n,⟨hn.1,hnlt⟩,hb⟩];rfl)
              clear hb
              go_wp2_with fail
              go_ret
              exact ⟨by rw [HA.out];rfl,HDN.out.1⟩
            | false=>
              rw [hb] at u1
              have HB:=Lib.hid hb
              clear hb
              go_wp2_with fail
              go_roundw
              case rel=>exact ⟨n+1,by go_num,by omega,Lib.hid ((HDN.out.set (Nat.le_refl _) (k:=n.toNat) (by omega)).congr (fun k hk=>by
                  by_cases e:k=n.toNat
                  · subst e
                    rw [if_pos rfl,hnn,decide_eq_true (show f≤n∧n < n+1 by omega),Bool.or_true]
                  · rw [if_neg e]
                    congr 1
                    rw [Bool.eq_iff_iff,decide_eq_true_iff,decide_eq_true_iff]
                    omega)),Lib.hid (fun k h1 h2=>by
                  by_cases e:k=n
                  · rw [e];exact HB.out
                  · exact HQ.out k h1 (by omega)),Lib.hid (by rw [World.cell?_setCell_other (h:=by intro e;exact absurd (congrArg Addr.block e) (Nat.ne_of_gt HGL.out))];exact HK1.out)⟩
              case measure=>simp [intOf];omega
          · have hnf:n=f+c:=by omega
            subst hnf
            have HT:Hid (R=soundFrom (xs.take (i+1)) (a+c) (f+c) (xs.drop (i+1))):=Lib.hid (by
              have h:(xs.take i).any (meetsX ⟨a,f,c⟩)=false:=by
                rw [Bool.eq_false_iff]
                intro h
                obtain ⟨k,h1,h2⟩:=HMI.out.1 h
                rw [HQ.out k h1.1 h1.2] at h2
                cases h2
              rw [HOK.out,h]
              rfl)
            have v1:=HK1.out
            go_wp2_with fail
            go_roundw
            case rel=>exact ⟨i+1,a+c,f+c,by go_num,rfl,rfl,by omega,by omega,Lib.hid (HDN.out.congr (fun k _=>by rw [HT1.out,inAny_snoc];rfl)),HT⟩
            case measure=>simp [intOf];omega
    · have hin:i=m:=by omega
      subst hin
      have HA:Hid (R=true):=Lib.hid (by rw [HF.out,← HWL.out,List.drop_length];rfl)
      have HB:=Lib.hid HD.out.1
      go_wp2_with fail
      go_ret
      exact ⟨by rw [HA.out];rfl,HB.out⟩
end Go.Proofs.YtcefmpnijjcekaaGreatDoor
namespace Go.Proofs.YtcefmpnijjcekaaGreatDoor
open Go.RowKit
theorem sameExt_nil {w:World} {ao:Option Addr} {m c1:Nat} (hm:m≤3) :
    Calls Tryz.prog 192 #[.slice ao m c1,.slice none 0 0] w fun e w'=>e=.returned (.bool (decide (m=0)))∧w=w':=by
  by_cases h:m=0
  · subst h
    go_enter Tryz.func192,Tryz.ntmps192
    go_wp2_with fail
    go_loopw [5] (fun iv wr=>iv=.int .i64 0∧w=wr) (fun iv _=>0)
    case atStart=>exact ⟨rfl,rfl⟩
    case round=>
      obtain ⟨rfl,rfl⟩:=hrel
      go_wp2_with fail
      go_ret
      exact ⟨rfl,rfl⟩
  · rw [decide_eq_false h]
    have h1:((m:Int) != 0)=true:=by simp;omega
    go_enter Tryz.func192,Tryz.ntmps192
    go_wp2_with fail
    go_ret
    exact ⟨rfl,rfl⟩
end Go.Proofs.YtcefmpnijjcekaaGreatDoor
namespace Go.Proofs.YtcefmpnijjcekaaGreatDoor
open Go.RowKit
set_option maxHeartbeats 3200000 in
theorem rsame9_none (n:PNode) (hk:n.k=0) {ao:Option Addr} {m c1:Nat} (w:World) (hX:XIs w ao m n.x) :
    Calls Tryz.prog 148 #[n.val (.slice ao m c1),noNode.val (.slice none 0 0)] w fun e w'=>e=.returned (.bool (decide (n=noNode)))∧Below w.heap.size w w':=by
  obtain ⟨k,f,l,z,d0,d1,d2,d3,s,t,x,c⟩:=n
  have hk':k=0:=hk
  subst hk'
  clear hk
  have hm:=hX.2.1
  have hxl:x.length=m:=hX.1
  unfold noNode PNode.val
  simp only
  have ED:=eqD_any
  have HB:Hid (Below w.heap.size w ((w.alloc (.cells #[.int .i64 0,.int .i64 f,.int .i64 l,.int .i64 z,.int .i64 d0,.int .i64 d1,.int .i64 d2,.int .i64 d3,.int .i64 s,.int .i64 t,.slice ao m c1,.int .i64 c] 68)).alloc (.cells #[.int .i64 0,.int .i64 0,.int .i64 0,.int .i64 0,.int .i64 0,.int .i64 0,.int .i64 0,.int .i64 0,.int .i64 0,.int .i64 0,.slice none 0 0,.int .i64 0] 68))):=Lib.hid (((Below.refl _ _).alloc (Nat.le_refl _) _).alloc (by simp) _)
  have cE:=fun W=>sameExt_nil (ao:=ao) (c1:=c1) (w:=W) hm
  clear hX
  by_cases hf:f=0
  case neg=>
    have HV:Hid (decide ((⟨0,f,l,z,d0,d1,d2,d3,s,t,x,c⟩:PNode)=⟨0,0,0,0,0,0,0,0,0,0,[],0⟩)=false):=Lib.hid (decide_eq_false (fun h=>by injection h with _ hh _ _ _ _ _ _ _ _ _ _;exact hf hh))
    have e1:(f == 0)=false:=by simp [hf]
    have e2:decide (f=0)=false:=by simp [hf]
    clear hf
    go_enter Tryz.func148,Tryz.ntmps148
    go_wp2_with (go_at_call 192;refine (cE _).mono ?_;rintro e w' ⟨rfl,rfl⟩)
    go_ret
    exact ⟨by rw [HV.out];rfl,HB.out⟩
  obtain rfl:=hf
  by_cases hl:l=0
  case neg=>
    have HV:Hid (decide ((⟨0,0,l,z,d0,d1,d2,d3,s,t,x,c⟩:PNode)=⟨0,0,0,0,0,0,0,0,0,0,[],0⟩)=false):=Lib.hid (decide_eq_false (fun h=>by injection h with _ _ hh _ _ _ _ _ _ _ _ _;exact hl hh))
    have e1:(l == 0)=false:=by simp [hl]
    have e2:decide (l=0)=false:=by simp [hl]
    clear hl
    go_enter Tryz.func148,Tryz.ntmps148
    go_wp2_with (go_at_call 192;refine (cE _).mono ?_;rintro e w' ⟨rfl,rfl⟩)
    go_ret
    exact ⟨by rw [HV.out];rfl,HB.out⟩
  obtain rfl:=hl
  by_cases hz:z=0
  case neg=>
    have HV:Hid (decide ((⟨0,0,0,z,d0,d1,d2,d3,s,t,x,c⟩:PNode)=⟨0,0,0,0,0,0,0,0,0,0,[],0⟩)=false):=Lib.hid (decide_eq_false (fun h=>by injection h with _ _ _ hh _ _ _ _ _ _ _ _;exact hz hh))
    have e1:(z == 0)=false:=by simp [hz]
    have e2:decide (z=0)=false:=by simp [hz]
    clear hz
    go_enter Tryz.func148,Tryz.ntmps148
    go_wp2_with (go_at_call 192;refine (cE _).mono ?_;rintro e w' ⟨rfl,rfl⟩)
    go_ret
    exact ⟨by rw [HV.out];rfl,HB.out⟩
  obtain rfl:=hz
  by_cases hd0:d0=0
  case neg=>
    have HV:Hid (decide ((⟨0,0,0,0,d0,d1,d2,d3,s,t,x,c⟩:PNode)=⟨0,0,0,0,0,0,0,0,0,0,[],0⟩)=false):=Lib.hid (decide_eq_false (fun h=>by injection h with _ _ _ _ hh _ _ _ _ _ _ _;exact hd0 hh))
    have e1:(d0 == 0)=false:=by simp [hd0]
    have e2:decide (d0=0)=false:=by simp [hd0]
    clear hd0
    go_enter Tryz.func148,Tryz.ntmps148
    go_wp2_with (go_at_call 192;refine (cE _).mono ?_;rintro e w' ⟨rfl,rfl⟩)
    go_ret
    exact ⟨by rw [HV.out];rfl,HB.out⟩
  obtain rfl:=hd0
  by_cases hd1:d1=0
  case neg=>
    have HV:Hid (decide ((⟨0,0,0,0,0,d1,d2,d3,s,t,x,c⟩:PNode)=⟨0,0,0,0,0,0,0,0,0,0,[],0⟩)=false):=Lib.hid (decide_eq_false (fun h=>by injection h with _ _ _ _ _ hh _ _ _ _ _ _;exact hd1 hh))
    have e1:(d1 == 0)=false:=by simp [hd1]
    have e2:decide (d1=0)=false:=by simp [hd1]
    clear hd1
    go_enter Tryz.func148,Tryz.ntmps148
    go_wp2_with (go_at_call 192;refine (cE _).mono ?_;rintro e w' ⟨rfl,rfl⟩)
    go_ret
    exact ⟨by rw [HV.out];rfl,HB.out⟩
  obtain rfl:=hd1
  by_cases hd2:d2=0
  case neg=>
    have HV:Hid (decide ((⟨0,0,0,0,0,0,d2,d3,s,t,x,c⟩:PNode)=⟨0,0,0,0,0,0,0,0,0,0,[],0⟩)=false):=Lib.hid (decide_eq_false (fun h=>by injection h with _ _ _ _ _ _ hh _ _ _ _ _;exact hd2 hh))
    have e1:(d2 == 0)=false:=by simp [hd2]
    have e2:decide (d2=0)=false:=by simp [hd2]
    clear hd2
    go_enter Tryz.func148,Tryz.ntmps148
    go_wp2_with (go_at_call 192;refine (cE _).mono ?_;rintro e w' ⟨rfl,rfl⟩)
    go_ret
    exact ⟨by rw [HV.out];rfl,HB.out⟩
  obtain rfl:=hd2
  by_cases hd3:d3=0
  case neg=>
    have HV:Hid (decide ((⟨0,0,0,0,0,0,0,d3,s,t,x,c⟩:PNode)=⟨0,0,0,0,0,0,0,0,0,0,[],0⟩)=false):=Lib.hid (decide_eq_false (fun h=>by injection h with _ _ _ _ _ _ _ hh _ _ _ _;exact hd3 hh))
    have e1:(d3 == 0)=false:=by simp [hd3]
    have e2:decide (d3=0)=false:=by simp [hd3]
    clear hd3
    go_enter Tryz.func148,Tryz.ntmps148
    go_wp2_with (go_at_call 192;refine (cE _).mono ?_;rintro e w' ⟨rfl,rfl⟩)
    go_ret
    exact ⟨by rw [HV.out];rfl,HB.out⟩
  obtain rfl:=hd3
  by_cases hs:s=0
  case neg=>
    have HV:Hid (decide ((⟨0,0,0,0,0,0,0,0,s,t,x,c⟩:PNode)=⟨0,0,0,0,0,0,0,0,0,0,[],0⟩)=false):=Lib.hid (decide_eq_false (fun h=>by injection h with _ _ _ _ _ _ _ _ hh _ _ _;exact hs hh))
    have e1:(s == 0)=false:=by simp [hs]
    have e2:decide (s=0)=false:=by simp [hs]
    clear hs
    go_enter Tryz.func148,Tryz.ntmps148
    go_wp2_with (go_at_call 192;refine (cE _).mono ?_;rintro e w' ⟨rfl,rfl⟩)
    go_ret
    exact ⟨by rw [HV.out];rfl,HB.out⟩
  obtain rfl:=hs
  by_cases ht:t=0
  case neg=>
    have HV:Hid (decide ((⟨0,0,0,0,0,0,0,0,0,t,x,c⟩:PNode)=⟨0,0,0,0,0,0,0,0,0,0,[],0⟩)=false):=Lib.hid (decide_eq_false (fun h=>by injection h with _ _ _ _ _ _ _ _ _ hh _ _;exact ht hh))
    have e1:(t == 0)=false:=by simp [ht]
    have e2:decide (t=0)=false:=by simp [ht]
    clear ht
    go_enter Tryz.func148,Tryz.ntmps148
    go_wp2_with (go_at_call 192;refine (cE _).mono ?_;rintro e w' ⟨rfl,rfl⟩)
    go_ret
    exact ⟨by rw [HV.out];rfl,HB.out⟩
  obtain rfl:=ht
  by_cases hc:c=0
  case neg=>
    have HV:Hid (decide ((⟨0,0,0,0,0,0,0,0,0,0,x,c⟩:PNode)=⟨0,0,0,0,0,0,0,0,0,0,[],0⟩)=false):=Lib.hid (decide_eq_false (fun h=>by injection h with _ _ _ _ _ _ _ _ _ _ _ hh;exact hc hh))
    have e1:(c == 0)=false:=by simp [hc]
    have e2:decide (c=0)=false:=by simp [hc]
    clear hc
    go_enter Tryz.func148,Tryz.ntmps148
    go_wp2_with (go_at_call 192;refine (cE _).mono ?_;rintro e w' ⟨rfl,rfl⟩)
    go_ret
    exact ⟨by rw [HV.out];rfl,HB.out⟩
  obtain rfl:=hc
  by_cases hx:m=0
  case neg=>
    have HV:Hid (decide ((⟨0,0,0,0,0,0,0,0,0,0,x,0⟩:PNode)=⟨0,0,0,0,0,0,0,0,0,0,[],0⟩)=false):=Lib.hid (decide_eq_false (fun h=>by injection h with _ _ _ _ _ _ _ _ _ _ hh _;apply hx;rw [← hxl,hh];rfl))
    have dx:decide (m=0)=false:=decide_eq_false hx
    rw [dx] at cE
    clear hx
    go_enter Tryz.func148,Tryz.ntmps148
    go_wp2_with (go_at_call 192;refine (cE _).mono ?_;rintro e w' ⟨rfl,rfl⟩)
    go_ret
    exact ⟨by rw [HV.out];rfl,HB.out⟩
  have hx0:x=[]:=List.length_eq_zero_iff.1 (by rw [hxl,hx])
  have dx:decide (m=0)=true:=decide_eq_true hx
  rw [dx] at cE
  clear hx hxl
  subst hx0
  have HV:Hid (decide ((⟨0,0,0,0,0,0,0,0,0,0,[],0⟩:PNode)=⟨0,0,0,0,0,0,0,0,0,0,[],0⟩)=true):=Lib.hid (decide_eq_true rfl)
  go_enter Tryz.func148,Tryz.ntmps148
  go_wp2_with (go_at_call 192;refine (cE _).mono ?_;rintro e w' ⟨rfl,rfl⟩)
  go_ret
  exact ⟨by rw [HV.out];rfl,HB.out⟩
end Go.Proofs.YtcefmpnijjcekaaGreatDoor
namespace Go.Proofs.YtcefmpnijjcekaaGreatDoor
open Go.RowKit
theorem ptrOk_data (p:Int):ptrOk p=(decide (p=0)||dataB p):=by
  unfold ptrOk dataB
  rw [Bool.eq_iff_iff]
  simp
  omega
def badP (f p:Int):Bool:=!decide (p=0)&&(decide (f=2)||!dataB p)
theorem ptrs_ok (n:PNode):(n.f=1→n.ptrs.all ptrOk=!(n.ptrs.any (badP n.f)))∧(n.f=2→n.ptrs.all (fun p=>decide (p=0))=!(n.ptrs.any (badP n.f))):=by
  refine ⟨fun h=>?_,fun h=>?_⟩
  · rw [h]
    generalize n.ptrs=l
    induction l with
    | nil=>rfl
    | cons x r ih=>
      rw [List.all_cons,List.any_cons,ih,ptrOk_data]
      unfold badP
      cases decide (x=0) <;> cases dataB x <;> simp
  · rw [h]
    generalize n.ptrs=l
    induction l with
    | nil=>rfl
    | cons x r ih=>
      rw [List.all_cons,List.any_cons,ih]
      unfold badP
      cases decide (x=0) <;> simp
theorem rany_take {p:Int→Bool} {l:List Int} {i:Nat} {x:Int} (h:l[i]?=some x) (h0:(l.take i).any p=false):(l.take (i+1)).any p=p x:=by
  rw [List.take_add_one,h,List.any_append,h0]
  simp
theorem rany_of_take {p:Int→Bool} {l:List Int} {i:Nat} (h:(l.take i).any p=true):l.any p=true:=by
  rw [List.any_eq_true] at h ⊢
  obtain ⟨x,hx,hp⟩:=h
  exact ⟨x,List.mem_of_mem_take hx,hp⟩
def rheadB (k f l z:Int):Bool:=decide (k < 1∨k > 2∨f < 1∨f > 2∨l < 1∨l > 1000∨z < 0∨z > 6144)
theorem rsound_head (n:PNode) (h0:n.k≠0) (h:rheadB n.k n.f n.l n.z=true):n.sound=false:=by
  have h:=of_decide_eq_true h
  unfold PNode.sound
  rw [if_neg h0]
  by_cases hh:n.headOk=true
  · have hh':=of_decide_eq_true hh
    have:n.mapOk=false:=by unfold PNode.mapOk;rw [if_neg (by omega),if_neg (by omega)]
    rw [this,Bool.and_false]
  · rw [Bool.not_eq_true] at hh
    rw [hh];rfl
theorem rsound_map (n:PNode) (h:rheadB n.k n.f n.l n.z=false):n.sound=n.mapOk∧(n.f=1∨n.f=2):=by
  have h:=of_decide_eq_false h
  unfold PNode.sound
  rw [if_neg (by omega),show n.headOk=true from decide_eq_true (by omega),Bool.true_and]
  exact ⟨rfl,by omega⟩
set_option maxRecDepth 100000 in
set_option maxHeartbeats 12800000 in
theorem Sound09_any (n:PNode) {ao:Option Addr} {m cap:Nat} (w:World) (hn:n.small) (hX:XIs w ao m n.x) :
    Calls Tryz.prog 93 #[n.val (.slice ao m cap)] w fun e w'=>e=.returned (.bool n.sound)∧Below w.heap.size w w':=by
  have hm:=hX.2.1
  have hxl:n.x.length=m:=hX.1
  by_cases h0:n.k=0
  · have cS:=fun (W:World) (hW:Below w.heap.size w W)=>rsame9_none (c1:=cap) n h0 W (hX.later hW)
    have HV:Hid (n.sound=decide (n=noNode)):=Lib.hid (by unfold PNode.sound;rw [if_pos h0])
    obtain ⟨S,hS⟩:∃ S,n.sound=S:=⟨_,rfl⟩
    rw [hS] at HV ⊢
    rw [← HV.out] at cS
    clear HV hS hX hn hxl
    obtain ⟨k,f,l,z,d0,d1,d2,d3,s,t,x,c⟩:=n
    have h0':k=0:=h0
    subst h0'
    clear h0
    unfold PNode.val noNode at cS
    unfold PNode.val
    simp only at cS ⊢
    have CS:=Lib.hid cS
    have HB:Hid (Below w.heap.size w (w.alloc (.cells #[.int .i64 0,.int .i64 f,.int .i64 l,.int .i64 z,.int .i64 d0,.int .i64 d1,.int .i64 d2,.int .i64 d3,.int .i64 s,.int .i64 t,.slice ao m cap,.int .i64 c] 68))):=Lib.hid ((Below.refl _ _).alloc (Nat.le_refl _) _)
    clear cS
    go_enter Tryz.func93,Tryz.ntmps93
    go_wp2_with (go_at_call 148;refine (CS.out _ HB.out).mono ?_;rintro e w' ⟨rfl,hb⟩;have HB2:=Lib.hid (HB.out.trans (hb.mono HB.out.size));clear hb)
    go_ret
    exact ⟨rfl,HB2.out⟩
  · cases hh:rheadB n.k n.f n.l n.z with
    | true=>
      have HV:=Lib.hid (rsound_head n h0 hh)
      obtain ⟨S,hS⟩:∃ S,n.sound=S:=⟨_,rfl⟩
      rw [hS] at HV ⊢
      clear hS hX hn hxl
      obtain ⟨k,f,l,z,d0,d1,d2,d3,s,t,x,c⟩:=n
      have hh:=of_decide_eq_true hh
      simp only at hh h0
      unfold PNode.val
      simp only
      have e0:(k == 0)=false:=by simp [h0]
      have e0':decide (k=0)=false:=by simp [h0]
      have HB:Hid (Below w.heap.size w (w.alloc (.cells #[.int .i64 k,.int .i64 f,.int .i64 l,.int .i64 z,.int .i64 d0,.int .i64 d1,.int .i64 d2,.int .i64 d3,.int .i64 s,.int .i64 t,.slice ao m cap,.int .i64 c] 68))):=Lib.hid ((Below.refl _ _).alloc (Nat.le_refl _) _)
      clear h0
      by_cases g0:k < 1
      case pos=>
        clear hh
        go_enter Tryz.func93,Tryz.ntmps93
        go_wp2_with fail
        go_ret
        exact ⟨by rw [HV.out];rfl,HB.out⟩
      by_cases g1:k > 2
      case pos=>
        clear hh
        go_enter Tryz.func93,Tryz.ntmps93
        go_wp2_with fail
        go_ret
        exact ⟨by rw [HV.out];rfl,HB.out⟩
      by_cases g2:f < 1
      case pos=>
        clear hh
        go_enter Tryz.func93,Tryz.ntmps93
        go_wp2_with fail
        go_ret
        exact ⟨by rw [HV.out];rfl,HB.out⟩
      by_cases g3:f > 2
      case pos=>
        clear hh
        go_enter Tryz.func93,Tryz.ntmps93
        go_wp2_with fail
        go_ret
        exact ⟨by rw [HV.out];rfl,HB.out⟩
      by_cases g4:l < 1
      case pos=>
        clear hh
        go_enter Tryz.func93,Tryz.ntmps93
        go_wp2_with fail
        go_ret
        exact ⟨by rw [HV.out];rfl,HB.out⟩
      by_cases g5:l > 1000
      case pos=>
        clear hh
        go_enter Tryz.func93,Tryz.ntmps93
        go_wp2_with fail
        go_ret
        exact ⟨by rw [HV.out];rfl,HB.out⟩
      by_cases g6:z < 0
      case pos=>
        clear hh
        go_enter Tryz.func93,Tryz.ntmps93
        go_wp2_with fail
        go_ret
        exact ⟨by rw [HV.out];rfl,HB.out⟩
      have g7:z > 6144:=by omega
      clear hh
      go_enter Tryz.func93,Tryz.ntmps93
      go_wp2_with fail
      go_ret
      exact ⟨by rw [HV.out];rfl,HB.out⟩
    | false=>
      obtain ⟨hsm,hff⟩:=rsound_map n hh
      have hp:=ptrs_ok n
      have CA:=Lib.hid (fun W=>all09_any n (.slice ao m cap) rfl W ⟨ao,m,cap,rfl⟩)
      have HX:=Lib.hid (fun (W:World) (hW:Below w.heap.size w W)=>Extents09_any (cap:=cap) (hX.later hW) hn.2.2.2.2.2.2.2.2.2.2.2)
      have hxs:soundXs n.x=soundFrom [] 0 0 n.x:=by unfold soundXs;rw [decide_eq_true (by rw [hxl];exact hm)];rfl
      obtain ⟨S,hS⟩:∃ S,n.sound=S:=⟨_,rfl⟩
      rw [hS] at hsm ⊢
      clear hS hX hn
      obtain ⟨k,f,l,z,d0,d1,d2,d3,s,t,x,c⟩:=n
      have hh:=of_decide_eq_false hh
      unfold PNode.val PNode.ptrs at CA
      unfold PNode.ptrs at hp
      unfold PNode.val
      simp only at hh h0 hsm hff hp CA HX hxl hxs ⊢
      rcases hff with hf | hf
      · subst hf
        have HV:Hid (S=(!([d0,d1,d2,d3,s,t].any (badP 1))&&(decide (m=0)&&decide (c=0)))):=Lib.hid (by
          rw [hsm,← hp.1 rfl]
          show (if (1:Int)=1 then [d0,d1,d2,d3,s,t].all ptrOk&&(decide (x=[])&&decide (c=0)) else _)=_
          rw [if_pos rfl]
          congr 2
          rw [Bool.eq_iff_iff,decide_eq_true_iff,decide_eq_true_iff,← hxl]
          exact List.length_eq_zero_iff.symm)
        clear hsm hp hxs HX hxl h0
        have h0':(k == 0)=false:=by simp;omega
        have h0'':decide (k=0)=false:=by simp;omega
        have e5:¬ k < 1:=by omega
        have e6:¬ 2 < k:=by omega
        have e7:¬ l < 1:=by omega
        have e8:¬ 1000 < l:=by omega
        have e9:¬ z < 0:=by omega
        have e10:¬ 6144 < z:=by omega
        have HB:Hid (Below w.heap.size w (w.alloc (.cells #[.int .i64 k,.int .i64 1,.int .i64 l,.int .i64 z,.int .i64 d0,.int .i64 d1,.int .i64 d2,.int .i64 d3,.int .i64 s,.int .i64 t,.slice ao m cap,.int .i64 c] 68))):=Lib.hid ((Below.refl _ _).alloc (Nat.le_refl _) _)
        have HC:Hid (∀ j v,(#[.int .i64 k,.int .i64 1,.int .i64 l,.int .i64 z,.int .i64 d0,.int .i64 d1,.int .i64 d2,.int .i64 d3,.int .i64 s,.int .i64 t,.slice ao m cap,.int .i64 c]:Array Value)[j]?=some v→(w.alloc (.cells #[.int .i64 k,.int .i64 1,.int .i64 l,.int .i64 z,.int .i64 d0,.int .i64 d1,.int .i64 d2,.int .i64 d3,.int .i64 s,.int .i64 t,.slice ao m cap,.int .i64 c] 68)).cell? ⟨w.heap.size,j,none⟩=some v):=Lib.hid (fun j v h=>by rw [World.cell?_alloc_new];exact h)
        clear hh
        go_enter Tryz.func93,Tryz.ntmps93
        go_wp2_with (go_at_call 95;refine (CA.out _).mono ?_;rintro e w2 ⟨g,rfl,h6,hb⟩;have H6:=Lib.hid h6;have HB2:=Lib.hid (HB.out.trans (hb.mono HB.out.size));have HQ:=Lib.hid (fun j v h=>cell_later hb (HC.out j v h));clear h6 hb)
        go_loopw [4] (fun iv wr=>∃ i:Nat,iv=.int .i64 (i:Int)∧i≤6∧Hid (Below w2.heap.size w2 wr)∧Hid (([d0,d1,d2,d3,s,t].take i).any (badP 1)=false)) (fun iv _=>6 - (intOf iv).toNat)
        case atStart=>exact ⟨0,rfl,Nat.zero_le _,Lib.hid (Below.refl _ _),Lib.hid rfl⟩
        case round=>
          obtain ⟨i,rfl,hi,HBR,HP⟩:=hrel
          have q1:=cell_later HBR.out (HQ.out 1 _ rfl)
          by_cases hlt:i < 6
          · obtain ⟨y,hy⟩:∃ y,[d0,d1,d2,d3,s,t][i]?=some y:=⟨_,List.getElem?_eq_getElem (by show i < 6;exact hlt)⟩
            have d:=cell_later HBR.out (H6.out.2 i y hy)
            have i1:(i:Int) < 6:=by omega
            have HT:=Lib.hid (rany_take (p:=badP 1) hy HP.out)
            have cD:=fun W=>Data09_any y W
            clear hy
            by_cases hy0:y=0
            · have e1:(y != 0)=false:=by simp [hy0]
              have e2:decide (y=0)=true:=by simp [hy0]
              have HN:=Lib.hid (HT.out.trans (show badP 1 y=false by unfold badP;rw [e2];rfl))
              clear hy0 cD
              go_wp2_with fail
              go_roundw
              case rel=>exact ⟨i+1,by go_num,by omega,HBR,HN⟩
              case measure=>simp [intOf];omega
            · have e1:(y != 0)=true:=by simp [hy0]
              have e2:decide (y=0)=false:=by simp [hy0]
              clear hy0
              cases hd:dataB y with
              | true=>
                rw [hd] at cD
                have HN:=Lib.hid (HT.out.trans (show badP 1 y=false by unfold badP;rw [e2,hd];rfl))
                clear hd
                go_wp2_with (go_at_call 149;refine (cD _).mono ?_;rintro e w3 ⟨rfl,rfl⟩)
                go_roundw
                case rel=>exact ⟨i+1,by go_num,by omega,HBR,HN⟩
                case measure=>simp [intOf];omega
              | false=>
                rw [hd] at cD
                have HN:=Lib.hid (HT.out.trans (show badP 1 y=true by unfold badP;rw [e2,hd];rfl))
                clear hd
                have HV2:=Lib.hid (rany_of_take HN.out)
                rw [HV2.out] at HV
                go_wp2_with (go_at_call 149;refine (cD _).mono ?_;rintro e w3 ⟨rfl,rfl⟩)
                go_ret
                exact ⟨by rw [HV.out];rfl,HB2.out.trans (HBR.out.mono HB2.out.size)⟩
          · have hin:i=6:=by omega
            subst hin
            have HNB:Hid ([d0,d1,d2,d3,s,t].any (badP 1)=false):=Lib.hid (by have h:=HP.out;rwa [show [d0,d1,d2,d3,s,t].take 6=[d0,d1,d2,d3,s,t] from rfl] at h)
            have q10:=cell_later HBR.out (HQ.out 10 _ rfl)
            have q11:=cell_later HBR.out (HQ.out 11 _ rfl)
            rw [HNB.out] at HV
            have HBF:=Lib.hid (HB2.out.trans (HBR.out.mono HB2.out.size))
            by_cases hm0:m=0
            · have z1:((m:Int) == 0)=true:=by simp [hm0]
              have z2:decide (m=0)=true:=by simp [hm0]
              rw [z2] at HV
              by_cases hc0:c=0
              · have z3:(c == 0)=true:=by simp [hc0]
                have z4:decide (c=0)=true:=by simp [hc0]
                rw [z4] at HV
                subst hm0
                subst hc0
                go_wp2_with fail
                go_ret
                exact ⟨by rw [HV.out];rfl,HBF.out⟩
              · have z3:(c == 0)=false:=by simp [hc0]
                have z4:decide (c=0)=false:=by simp [hc0]
                rw [z4] at HV
                subst hm0
                clear hc0
                go_wp2_with fail
                go_ret
                exact ⟨by rw [HV.out];rfl,HBF.out⟩
            · have z1:((m:Int) == 0)=false:=by simp;omega
              have z2:decide (m=0)=false:=by simp [hm0]
              rw [z2] at HV
              go_wp2_with fail
              go_ret
              exact ⟨by rw [HV.out];rfl,HBF.out⟩
      · subst hf
        have HV:Hid (S=(!([d0,d1,d2,d3,s,t].any (badP 2))&&(soundFrom [] 0 0 x&&(decide (c=0)||dataB c)))):=Lib.hid (by
          rw [hsm,← hp.2 rfl,← hxs,← ptrOk_data]
          show (if (2:Int)=1 then _ else if (2:Int)=2 then [d0,d1,d2,d3,s,t].all (fun p=>decide (p=0))&&(soundXs x&&ptrOk c) else _)=_
          rw [if_neg (by decide),if_pos rfl])
        clear hsm hp hxs hxl h0
        have h0':(k == 0)=false:=by simp;omega
        have h0'':decide (k=0)=false:=by simp;omega
        have e5:¬ k < 1:=by omega
        have e6:¬ 2 < k:=by omega
        have e7:¬ l < 1:=by omega
        have e8:¬ 1000 < l:=by omega
        have e9:¬ z < 0:=by omega
        have e10:¬ 6144 < z:=by omega
        have HB:Hid (Below w.heap.size w (w.alloc (.cells #[.int .i64 k,.int .i64 2,.int .i64 l,.int .i64 z,.int .i64 d0,.int .i64 d1,.int .i64 d2,.int .i64 d3,.int .i64 s,.int .i64 t,.slice ao m cap,.int .i64 c] 68))):=Lib.hid ((Below.refl _ _).alloc (Nat.le_refl _) _)
        have HC:Hid (∀ j v,(#[.int .i64 k,.int .i64 2,.int .i64 l,.int .i64 z,.int .i64 d0,.int .i64 d1,.int .i64 d2,.int .i64 d3,.int .i64 s,.int .i64 t,.slice ao m cap,.int .i64 c]:Array Value)[j]?=some v→(w.alloc (.cells #[.int .i64 k,.int .i64 2,.int .i64 l,.int .i64 z,.int .i64 d0,.int .i64 d1,.int .i64 d2,.int .i64 d3,.int .i64 s,.int .i64 t,.slice ao m cap,.int .i64 c] 68)).cell? ⟨w.heap.size,j,none⟩=some v):=Lib.hid (fun j v h=>by rw [World.cell?_alloc_new];exact h)
        clear hh
        go_enter Tryz.func93,Tryz.ntmps93
        go_wp2_with (go_at_call 95;refine (CA.out _).mono ?_;rintro e w2 ⟨g,rfl,h6,hb⟩;have H6:=Lib.hid h6;have HB2:=Lib.hid (HB.out.trans (hb.mono HB.out.size));have HQ:=Lib.hid (fun j v h=>cell_later hb (HC.out j v h));clear h6 hb)
        go_loopw [4] (fun iv wr=>∃ i:Nat,iv=.int .i64 (i:Int)∧i≤6∧Hid (Below w2.heap.size w2 wr)∧Hid (([d0,d1,d2,d3,s,t].take i).any (badP 2)=false)) (fun iv _=>6 - (intOf iv).toNat)
        case atStart=>exact ⟨0,rfl,Nat.zero_le _,Lib.hid (Below.refl _ _),Lib.hid rfl⟩
        case round=>
          obtain ⟨i,rfl,hi,HBR,HP⟩:=hrel
          have q1:=cell_later HBR.out (HQ.out 1 _ rfl)
          by_cases hlt:i < 6
          · obtain ⟨y,hy⟩:∃ y,[d0,d1,d2,d3,s,t][i]?=some y:=⟨_,List.getElem?_eq_getElem (by show i < 6;exact hlt)⟩
            have d:=cell_later HBR.out (H6.out.2 i y hy)
            have i1:(i:Int) < 6:=by omega
            have HT:=Lib.hid (rany_take (p:=badP 2) hy HP.out)
            have cD:=fun W=>Data09_any y W
            clear hy
            by_cases hy0:y=0
            · have e1:(y != 0)=false:=by simp [hy0]
              have e2:decide (y=0)=true:=by simp [hy0]
              have HN:=Lib.hid (HT.out.trans (show badP 2 y=false by unfold badP;rw [e2];rfl))
              clear hy0 cD
              go_wp2_with fail
              go_roundw
              case rel=>exact ⟨i+1,by go_num,by omega,HBR,HN⟩
              case measure=>simp [intOf];omega
            · have e1:(y != 0)=true:=by simp [hy0]
              have e2:decide (y=0)=false:=by simp [hy0]
              clear hy0
              have HN:=Lib.hid (HT.out.trans (show badP 2 y=true by unfold badP;rw [e2];rfl))
              have HV2:=Lib.hid (rany_of_take HN.out)
              rw [HV2.out] at HV
              go_wp2_with fail
              go_ret
              exact ⟨by rw [HV.out];rfl,HB2.out.trans (HBR.out.mono HB2.out.size)⟩
          · have hin:i=6:=by omega
            subst hin
            have HNB:Hid ([d0,d1,d2,d3,s,t].any (badP 2)=false):=Lib.hid (by have h:=HP.out;rwa [show [d0,d1,d2,d3,s,t].take 6=[d0,d1,d2,d3,s,t] from rfl] at h)
            have q10:=cell_later HBR.out (HQ.out 10 _ rfl)
            have q11:=cell_later HBR.out (HQ.out 11 _ rfl)
            rw [HNB.out] at HV
            have HBF:=Lib.hid (HB2.out.trans (HBR.out.mono HB2.out.size))
            have cX:=HX.out
            cases hx:soundFrom [] 0 0 x with
            | false=>
              rw [hx] at HV cX
              have HX:=Lib.hid cX
              clear hx cX
              go_wp2_with (go_at_call 150;refine (HX.out _ HBF.out).mono ?_;rintro e w3 ⟨rfl,hb3⟩;have B3:=Lib.hid (HBF.out.trans (hb3.mono HBF.out.size));have q12:=cell_later hb3 q11;clear hb3)
              go_ret
              exact ⟨by rw [HV.out];rfl,B3.out⟩
            | true=>
              rw [hx] at HV cX
              have HX:=Lib.hid cX
              clear hx cX
              have cD:=fun W=>Data09_any c W
              by_cases hc0:c=0
              · have z3:(c == 0)=true:=by simp [hc0]
                have z4:decide (c=0)=true:=by simp [hc0]
                rw [z4] at HV
                clear cD
                subst hc0
                go_wp2_with (go_at_call 150;refine (HX.out _ HBF.out).mono ?_;rintro e w3 ⟨rfl,hb3⟩;have B3:=Lib.hid (HBF.out.trans (hb3.mono HBF.out.size));have q12:=cell_later hb3 q11;clear hb3)
                go_ret
                exact ⟨by rw [HV.out];rfl,B3.out⟩
              · have z3:(c == 0)=false:=by simp [hc0]
                have z4:decide (c=0)=false:=by simp [hc0]
                rw [z4] at HV
                clear hc0
                generalize dataB c=v at *
                go_wp2_with (first | (go_at_call 150;refine (HX.out _ HBF.out).mono ?_;rintro e w3 ⟨rfl,hb3⟩;have B3:=Lib.hid (HBF.out.trans (hb3.mono HBF.out.size));have q12:=cell_later hb3 q11;clear hb3) | (go_at_call 149;refine (cD _).mono ?_;rintro e w4 ⟨rfl,rfl⟩))
                go_ret
                exact ⟨by rw [HV.out];rfl,B3.out⟩
end Go.Proofs.YtcefmpnijjcekaaGreatDoor
namespace Go.Proofs.YtcefmpnijjcekaaGreatDoor
open Go.RowKit
theorem put09 {base:Nat} {w:World} {v:Value} {len:Nat} {zs:List Int} {n:Int} {kz:Int} (k:Nat) (e:kz=k) (hown:w.ownsRow base 5 1 v len (zs.map (Value.int .u8))) (hbase:base≤w.heap.size)
    (hn:0≤n∧n < 4294967296) (hk:k≤8) (hlen:len≤1000):Calls Tryz.prog 40 #[v,.int .i64 n,.int .i64 kz] w (PutPost base w (len+k) (zs ++ leB n k)):=by
  subst e
  exact Put04_any base v len zs n k w hown hbase hn.1 (by omega) hk (by omega)
theorem wp_append_bytes9 {ops:Array Oper} {rest:List Oper} {o:Oper} {a:Act} {Q:Exit→Act→World→Prop} {w:World} (hgd:o.guard=none) (s x:Operand)
    (ho:o.op=.call { callee:=.builtin .append,args:=#[s,x],argTypes:=#[44,44] }) (base n:Nat) (v:Value) (xs:List Value) (hs:a.eval s=v) (hown:w.ownsRow base 5 1 v n xs)
    (ad:Addr) (m c:Nat) (zs:List Int) (hx:a.eval x=.slice (some ad) m c) (hB:Bts w (some ad) m zs) (hb:n+m≤140737488355328) (hbase:base≤w.heap.size)
    (h:∀ v' w',w'.ownsRow base 5 1 v' (n+m) (xs ++ zs.map (Value.int .u8))→Below base w w'→w.grownBy w' v.ownBlock→wpList Tryz.prog ops Q rest (a.put o.dst v') w'):wpList Tryz.prog ops Q (o::rest) a w:=by
  obtain ⟨i0,hi,hz0,hz1,hz2⟩:=info_parts info5
  exact wpList_append_own w hgd s x 44 ho base 5 i0 (.int .u8 0) 1 1 Tryz.underlying44 hi hz0 hz1 hz2 rfl (by decide) v n xs hs hown ad m c (zs.map (Value.int .u8)) hx (by rw [List.length_map,hB.1,Nat.mul_one]) (bts_news hB rfl) (one_cells zs)
      (by unfold maxLen;omega) (by omega) hbase (fun v' w' h1 h2 _=>h v' w' h1 ((Below.refl base w).grown h2 hbase (fun k hk=>(hown.lt k hk).1)) h2)
theorem block_grown {w w1:World} {g base n:Nat} {v:Value} {xs:List Value} {o o1:Obj} (h:w.heap[g]?=some o) (hty:∀ cs mk,o≠.cells cs 5 mk) (ho:w.ownsRow base 5 1 v n xs) (hg:(w.alloc o1).grownBy w1 v.ownBlock):w1.heap[g]?=some o:=by
  have hlt:g < w.heap.size:=by
    rcases Nat.lt_or_ge g w.heap.size with h' | h'
    · exact h'
    · rw [Array.getElem?_eq_none h'] at h;cases h
  have hne:some g≠v.ownBlock:=by
    intro e
    rcases ho.2 with ⟨rfl,_⟩ | ⟨g',cap,cur,rfl,_,hh,_⟩
    · simp [Value.ownBlock] at e
    · simp [Value.ownBlock] at e
      subst e
      rw [hh] at h
      exact hty _ _ (Option.some.inj h).symm
  rw [hg.block g (by simp;omega) hne]
  rw [Below.heap_alloc w o1 g hlt]
  exact h
set_option maxHeartbeats 400000 in
theorem Put09g_any (base:Nat) (v:Value) (len:Nat) (zs:List Int) (n:Int) (k:Nat) (g:Nat) (o:Obj) (w:World) (hown:w.ownsRow base 5 1 v len (zs.map (Value.int .u8))) (hbase:base≤w.heap.size)
    (hn0:0≤n) (hn1:n≤9223372036854775807) (hk:k≤8) (hlen:len≤140737488355320) (hgo:w.heap[g]?=some o) (hty:∀ cs mk,o≠.cells cs 5 mk) :
    Calls Tryz.prog 40 #[v,.int .i64 n,.int .i64 k] w (fun e w'=>PutPost base w (len+k) (zs ++ leB n k) e w'∧w'.heap[g]?=some o):=by
  go_enter Tryz.func40,Tryz.ntmps40
  go_wp2
  have HO:=Lib.hid hown
  have HG:=Lib.hid hgo
  have HTY:=Lib.hid hty
  clear hown hgo hty
  go_loopw [0,7] (fun vv iv wr=>∃ j:Nat,j≤k∧iv=.int .i64 j∧Hid (wr.ownsRow base 5 1 vv (len+j) ((zs ++ leB n j).map (Value.int .u8)))∧Hid (Below base w wr)∧Hid (wr.heap[g]?=some o)) (fun _ iv _=>k - (intOf iv).toNat)
  case atStart=>exact ⟨0,Nat.zero_le _,rfl,Lib.hid (by rw [show leB n 0=[] from rfl,List.append_nil];exact HO.out),Lib.hid (Below.refl _ _),HG⟩
  case round=>
    obtain ⟨j,hj,rfl,HR,HB,HGR⟩:=hrel
    by_cases hlt:j < k
    · have HX:Hid (0≤n / 2^(8 * j)%256∧n / 2^(8 * j)%256≤255):=Lib.hid (by omega)
      have HS:Hid (base≤wr.heap.size+1):=Lib.hid (by have:=HB.out.size;omega)
      go_wp2_with (at_builtin;refine wp_append_bytes9 rfl (.tmp 13) (.tmp 21) rfl base (len+j) _ _ rfl (HR.out.alloc _) ⟨wr.heap.size,0,none⟩ 1 1 [n / 2^(8 * j)%256] rfl (one_bts wr _ HX.out) (by omega) (by simpa using HS.out) ?_;intro v1 w1 hown1 hb1 hg1;have HO1:=Lib.hid hown1;have HB1:=Lib.hid hb1;have HG1:=Lib.hid (block_grown HGR.out HTY.out HR.out hg1);clear hown1 hb1 hg1)
      go_roundw
      case rel=>
        refine ⟨j+1,by omega,by go_num,Lib.hid ?_,Lib.hid ((HB.out.alloc (by have:=HB.out.size;omega) _).trans HB1.out),HG1⟩
        have e:=HO1.out
        rw [pow_two_bytes,← List.map_append,List.append_assoc] at e
        exact e
      case measure=>simp [intOf];omega
    · have hjk:j=k:=by omega
      subst hjk
      go_wp2
      go_ret
      exact ⟨⟨_,rfl,HR.out,HB.out⟩,HGR.out⟩
set_option maxHeartbeats 800000 in
theorem PutExtent_any (x:PX) (p q:Nat) (base:Nat) (v:Value) (len:Nat) (zs:List Int) (w:World) (hown:w.ownsRow base 5 1 v len (zs.map (Value.int .u8))) (hbase:base≤w.heap.size) (hlen:len≤900) (sx:smallX x) (hp:FI p x.f) (hq:FI q x.c) :
    Calls Tryz.prog 94 #[v,.agg #[.int .i64 x.a,.complex .f64 p q]] w (PutPost base w (len+4) (zs ++ (leB x.a 1 ++ leB x.f 2 ++ leB x.c 1))):=by
  obtain ⟨⟨ha0,ha1⟩,hf0,hf1,hc0,hc1⟩:=sx
  have cP:=fun W=>Parts02_any p q x.f x.c W hp hq ⟨hf0,hf1,hc0,hc1⟩
  obtain ⟨a,f,c⟩:=x
  simp only at *
  have HA:Hid (0≤a∧a < 4294967296):=Lib.hid (by omega)
  have HF:Hid (0≤f∧f < 4294967296):=Lib.hid (by omega)
  have HC:Hid (0≤c∧c < 4294967296):=Lib.hid (by omega)
  have HO:=Lib.hid (hown.alloc (.cells #[.int .i64 a,.complex .f64 p q] 99))
  have HB:Hid (Below base w (w.alloc (.cells #[.int .i64 a,.complex .f64 p q] 99))):=Lib.hid ((Below.refl _ _).alloc hbase _)
  have HBS:=Lib.hid hbase
  have HCL:Hid (∀ W,Below (w.alloc (.cells #[.int .i64 a,.complex .f64 p q] 99)).heap.size (w.alloc (.cells #[.int .i64 a,.complex .f64 p q] 99)) W→W.cell? ⟨w.heap.size,0,none⟩=some (.int .i64 a)):=Lib.hid (fun W hW=>cell_later hW (by rw [World.cell?_alloc_new];rfl))
  clear hown hbase hp hq ha0 ha1 hf0 hf1 hc0 hc1
  generalize runOk f c=t at *
  go_enter Tryz.func94,Tryz.ntmps94
  go_wp2_with (first
    | (go_at_call 151;refine (cP _).mono ?_;rintro e w2 ⟨rfl,hb2⟩;have O2:=Lib.hid (owns_later HO.out hb2);have B2:=Lib.hid (HB.out.trans (hb2.mono (Nat.le_trans HBS.out (by simp))));have q0:=HCL.out w2 hb2;have S2:=Lib.hid (Nat.le_trans (Nat.le_trans HBS.out (by simp)) hb2.size);clear hb2)
    | (go_at_call 40;refine (put09 1 rfl O4.out S4.out HC.out (by decide) (by omega)).mono ?_;rintro e w5 ⟨v5,rfl,h5,b5⟩;have B5:=Lib.hid (B4.out.trans b5);have O5:=Lib.hid h5;clear h5 b5)
    | (go_at_call 40;refine (put09 2 rfl O3.out S3.out HF.out (by decide) (by omega)).mono ?_;rintro e w4 ⟨v4,rfl,h5,b5⟩;have B4:=Lib.hid (B3.out.trans b5);have O4:=Lib.hid h5;have S4:=Lib.hid (Nat.le_trans S3.out b5.size);clear h5 b5)
    | (go_at_call 40;refine (put09 1 rfl O2.out S2.out HA.out (by decide) (by omega)).mono ?_;rintro e w3 ⟨v3,rfl,h5,b5⟩;have B3:=Lib.hid (B2.out.trans b5);have O3:=Lib.hid h5;have S3:=Lib.hid (Nat.le_trans S2.out b5.size);clear h5 b5))
  go_ret
  exact ⟨v5,rfl,by have h:=O5.out;rw [List.append_assoc,List.append_assoc] at h;rw [List.append_assoc];exact h,B5.out⟩
def lenOf9:Value→Nat
  | .slice _ n _=>n
  | _=>0
theorem owns_len {w:World} {base n:Nat} {v:Value} {xs:List Value} (h:w.ownsRow base 5 1 v n xs):∃ ao cap,v=.slice ao n cap:=by
  rcases h.2 with ⟨hv,h0⟩ | ⟨g,cap,cur,hv,_⟩
  · exact ⟨none,0,by rw [hv,h0]⟩
  · exact ⟨_,cap,hv⟩
end Go.Proofs.YtcefmpnijjcekaaGreatDoor
