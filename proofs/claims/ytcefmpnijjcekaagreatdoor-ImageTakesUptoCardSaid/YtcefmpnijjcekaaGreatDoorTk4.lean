/- Proved here: what the landed node's small tests answer: within, soundPointer, meets, soundExtents. The conditions stand at each theorem. Proved here: what the landed node's soundExtents answers. The conditions stand at each theorem. Proved here: what '==' says of two arrays of four numbers, of two extents, of two slots. No conditions. Proved here: what the landed node's .. -/
import Derived.Test.YtcefmpnijjcekaaGreatDoorTk3
import Derived.BigRegion
import Derived.Deep.RegionHeld
import Derived.Deep.QuietTactic
import Derived.BigQuiet
import Derived.Laws.StructEq
import Derived.Laws.Tables
import Derived.Laws.Cover2
import Derived.KernelRfl
import Derived.WalkSmall
import Derived.StillTailTactics
import Derived.Test.YtcefmpnijjcekaaGreatDoorTk0
set_option linter.unusedVariables false
set_option linter.unusedSimpArgs false
namespace Go.Proofs.YtcefmpnijjcekaaGreatDoor
open Go.RowKit
def inN (n lo hi:Int):Bool:=decide (lo≤n∧n≤hi)
theorem within9_any (n lo hi:Int) (w:World):Calls Tryz.prog 155 #[.int .i64 n,.int .i64 lo,.int .i64 hi] w fun e w'=>e=.returned (.bool (inN n lo hi))∧w=w':=by
  by_cases h1:lo≤n
  · by_cases h2:n≤hi
    · have HE:Hid (inN n lo hi=true):=Lib.hid (decide_eq_true ⟨h1,h2⟩)
      go_enter Tryz.func155,Tryz.ntmps155
      go_wp2
      go_ret
      exact ⟨by rw [HE.out];rfl,rfl⟩
    · have HE:Hid (inN n lo hi=false):=Lib.hid (decide_eq_false (fun h=>h2 h.2))
      go_enter Tryz.func155,Tryz.ntmps155
      go_wp2
      go_ret
      exact ⟨by rw [HE.out];rfl,rfl⟩
  · have HE:Hid (inN n lo hi=false):=Lib.hid (decide_eq_false (fun h=>h1 h.1))
    go_enter Tryz.func155,Tryz.ntmps155
    go_wp2
    go_ret
    exact ⟨by rw [HE.out];rfl,rfl⟩
theorem soundPointer_any (p:Int) (w:World):Calls Tryz.prog 199 #[.int .i64 p] w fun e w'=>e=.returned (.bool (ptrOk p))∧w=w':=by
  by_cases h0:p=0
  · subst h0
    go_enter Tryz.func199,Tryz.ntmps199
    go_wp2
    go_ret
    exact ⟨rfl,rfl⟩
  · have hE:ptrOk p=inN p 59 479:=by unfold ptrOk inN;simp [h0]
    rw [hE]
    have h1:(p == 0)=false:=by simp [h0]
    have c:=within9_any p 59 479 w
    generalize inN p 59 479=t at *
    clear hE h0
    go_enter Tryz.func199,Tryz.ntmps199
    go_wp2_with (go_at_call 155;refine c.mono ?_;rintro e w' ⟨rfl,rfl⟩)
    go_ret
    exact ⟨rfl,rfl⟩
def xAgg (x:PX) (p q:Nat):Value:=.agg #[.int .i64 x.a,.complex .f64 p q]
set_option maxHeartbeats 800000 in
theorem meets1_any (x y:PX) (p q p' q' g:Nat) (w:World) (hx:runOk x.f x.c=true) (hy:runOk y.f y.c=true) (sx:smallX x) (sy:smallX y) (hp:FI p x.f) (hq:FI q x.c) (hp':FI p' y.f) (hq':FI q' y.c)
    (hc:w.cell? ⟨g,1,none⟩=some (.complex .f64 p q)) :
    Calls Tryz.prog 255 #[xAgg y p' q',.pointer (some ⟨g,0,none⟩)] w fun e w'=>e=.returned (.bool (meetsX x y))∧Below w.heap.size w w':=by
  unfold xAgg
  have hb:Below w.heap.size w (w.alloc (.cells #[.int .i64 y.a,.complex .f64 p' q'] 99)):=(Below.refl _ _).alloc (Nat.le_refl _) _
  have hc1:=cell_later hb hc
  have c:=fun W=>Meet_any (.complex .f64 p q) (.complex .f64 p' q') x.f x.c y.f y.c W ⟨_,_,rfl,hp,hq⟩ ⟨_,_,rfl,hp',hq'⟩ hx hy sx.2 sy.2
  have HE:Hid (∀ r,CX r (ofA (meetF x.f y.f) (meetN x.f x.c y.f y.c)) (ofB (meetN x.f x.c y.f y.c))→∃ u v,r=.complex .f64 u v∧((!(FloatKind.f64.format.order u 0 == some .eq))||(!(FloatKind.f64.format.order v 0 == some .eq)))=meetsX x y):=Lib.hid (by
    rintro r ⟨u,v,rfl,h1,h2⟩
    refine ⟨u,v,rfl,?_⟩
    unfold meetsX ofA ofB at *
    by_cases h:meetN x.f x.c y.f y.c < 1
    · rw [if_pos h] at h1 h2
      rw [fi_eq h1 fi_zero rfl,fi_eq h2 fi_zero rfl,decide_eq_false (by omega)]
      rfl
    · rw [if_neg h] at h1 h2
      rw [fi_gt h2 fi_zero (by omega),decide_eq_true (by omega)]
      simp)
  have HB:=Lib.hid hb
  clear hc hb hp hq hp' hq' hx hy sx sy
  generalize meetsX x y=t at *
  go_enter Tryz.func255,Tryz.ntmps255
  go_wp2_with (go_at_call 256;refine (c _).mono ?_;rintro e w' ⟨r,rfl,hr,hb⟩;obtain ⟨u,v,rfl,he⟩:=HE.out r hr;have HR:=Lib.hid he;have HB2:=Lib.hid (HB.out.trans (hb.mono HB.out.size));clear hr hb he)
  go_ret
  exact ⟨by rw [← HR.out];rfl,HB2.out⟩
set_option maxRecDepth 100000 in
set_option maxHeartbeats 1600000 in
theorem indexX_any {w:World} {ao:Option Addr} {m cap:Nat} {xs:List PX} (hX:XIs w ao m xs) (x:PX) (p q g:Nat) (hx:runOk x.f x.c=true) (sx:smallX x) (hp:FI p x.f) (hq:FI q x.c) (hc:w.cell? ⟨g,1,none⟩=some (.complex .f64 p q))
    (hr:∀ y ∈ xs,runOk y.f y.c=true∧smallX y) :
    Calls Tryz.prog 263 #[.slice ao m cap,.func (.func 255) #[] #[.pointer (some ⟨g,0,none⟩)]] w fun e w'=>∃ r:Int,e=.returned (.int .i64 r)∧decide (0≤r)=xs.any (meetsX x)∧(-1≤r∧r≤3)∧Below w.heap.size w w':=by
  have hm:=hX.2.1
  have HL:=Lib.hid hX
  have HWL:=Lib.hid hX.1
  have HC:=Lib.hid hc
  have HR:=Lib.hid hr
  have HP:=Lib.hid (And.intro hp hq)
  clear hX hc hr hp hq
  go_enter Tryz.func263,Tryz.ntmps263
  go_wp2_with fail
  go_loopw [8] (fun iv wr=>∃ i:Nat,iv=.int .i64 (i:Int)∧i≤m∧Hid (Below w.heap.size w wr)∧Hid ((xs.take i).any (meetsX x)=false)) (fun iv _=>m - (intOf iv).toNat)
  case atStart=>exact ⟨0,rfl,Nat.zero_le _,Lib.hid (Below.refl _ _),Lib.hid rfl⟩
  case round=>
    obtain ⟨i,rfl,hi,HB,HQ⟩:=hrel
    by_cases hlt:i < m
    · obtain ⟨b,off,y,p',q',rfl,hy,hmem,c1,c2,f1,f2⟩:=HL.out.at hlt
      have d1:wr.cell? ⟨b,off+i * 2,none⟩=some (.int .i64 y.a):=cell_later HB.out c1
      have d2:wr.cell? ⟨b,off+i * 2+1,none⟩=some (.complex .f64 p' q'):=cell_later HB.out c2
      have i1:(i:Int) < (m:Int):=by omega
      have cF:=meets1_any x y p q p' q' g wr hx (HR.out y hmem).1 sx (HR.out y hmem).2 HP.out.1 HP.out.2 f1 f2 (cell_later HB.out HC.out)
      unfold xAgg at cF
      by_cases hv:meetsX x y=true
      · have HS:=Lib.hid ((any_take_x (p:=meetsX x) hy HQ.out).trans hv)
        have HV:=Lib.hid (any_of_take_x HS.out)
        rw [hv] at cF
        clear hy hmem c1 c2 f1 f2 hv HS
        go_wp2_with (go_at_call 255;refine cF.mono ?_;rintro e w3 ⟨rfl,hb3⟩;have HB3:=Lib.hid hb3;clear hb3)
        go_ret
        exact ⟨(i:Int),rfl,by rw [HV.out];exact decide_eq_true (by omega),by omega,HB.out.trans (HB3.out.mono HB.out.size)⟩
      · rw [Bool.not_eq_true] at hv
        have HS:=Lib.hid ((any_take_x (p:=meetsX x) hy HQ.out).trans hv)
        rw [hv] at cF
        clear hy hmem c1 c2 f1 f2 hv
        go_wp2_with (go_at_call 255;refine cF.mono ?_;rintro e w3 ⟨rfl,hb3⟩;have HB3:=Lib.hid hb3;clear hb3)
        go_roundw
        case rel=>exact ⟨i+1,by go_num,by omega,Lib.hid (HB.out.trans (HB3.out.mono HB.out.size)),HS⟩
        case measure=>simp [intOf];omega
    · have hin:i=m:=by omega
      subst hin
      go_wp2_with fail
      go_ret
      refine ⟨-1,rfl,?_,by omega,HB.out⟩
      have h:=HQ.out
      rw [← HWL.out,List.take_length] at h
      rw [h]
      rfl
set_option maxHeartbeats 800000 in
theorem containsX_any {w:World} {ao:Option Addr} {m cap:Nat} {xs:List PX} (hX:XIs w ao m xs) (x:PX) (p q g:Nat) (hx:runOk x.f x.c=true) (sx:smallX x) (hp:FI p x.f) (hq:FI q x.c) (hc:w.cell? ⟨g,1,none⟩=some (.complex .f64 p q))
    (hr:∀ y ∈ xs,runOk y.f y.c=true∧smallX y) :
    Calls Tryz.prog 254 #[.slice ao m cap,.func (.func 255) #[] #[.pointer (some ⟨g,0,none⟩)]] w fun e w'=>e=.returned (.bool (xs.any (meetsX x)))∧Below w.heap.size w w':=by
  have c:=indexX_any (cap:=cap) hX x p q g hx sx hp hq hc hr
  clear hX hc hr hp hq
  go_enter Tryz.func254,Tryz.ntmps254
  go_wp2_with (go_at_call 263;refine c.mono ?_;rintro e w2 ⟨r,rfl,hr,hrb,hb⟩;have HR:=Lib.hid hr;have HB:=Lib.hid hb;clear hr hb)
  go_ret
  exact ⟨by rw [← HR.out];rfl,HB.out⟩
set_option maxHeartbeats 800000 in
theorem meets_any {w:World} {ao:Option Addr} {m cap:Nat} {xs:List PX} (hX:XIs w ao m xs) (x:PX) (p q:Nat) (hx:runOk x.f x.c=true) (sx:smallX x) (hp:FI p x.f) (hq:FI q x.c)
    (hr:∀ y ∈ xs,runOk y.f y.c=true∧smallX y) :
    Calls Tryz.prog 235 #[xAgg x p q,.slice ao m cap] w fun e w'=>e=.returned (.bool (xs.any (meetsX x)))∧Below w.heap.size w w':=by
  unfold xAgg
  have hb:Below w.heap.size w (w.alloc (.cells #[.int .i64 x.a,.complex .f64 p q] 99)):=(Below.refl _ _).alloc (Nat.le_refl _) _
  have c:=containsX_any (cap:=cap) (hX.later hb) x p q w.heap.size hx sx hp hq (by rw [World.cell?_alloc_new];rfl) hr
  have HB:=Lib.hid hb
  clear hX hr hp hq hb
  go_enter Tryz.func235,Tryz.ntmps235
  go_wp2_with (go_at_call 254;refine c.mono ?_;rintro e w2 ⟨rfl,hb⟩;have HB2:=Lib.hid (HB.out.trans (hb.mono HB.out.size));clear hb)
  go_ret
  exact ⟨rfl,HB2.out⟩
end Go.Proofs.YtcefmpnijjcekaaGreatDoor
namespace Go.Proofs.YtcefmpnijjcekaaGreatDoor
open Go.RowKit
theorem okX_parts (e b:Int) (x:PX):okX e b x=(runOk x.f x.c&&(decide (59≤x.f)&&(inN x.a e (96 - x.c)&&!(decide (x.a=e)&&decide (x.f=b))))):=by
  unfold okX inN
  by_cases h1:x.a=e <;> by_cases h2:x.f=b <;> simp [h1,h2]
set_option maxRecDepth 100000 in
set_option maxHeartbeats 3200000 in
theorem soundExtents_any {w:World} {ao:Option Addr} {m cap:Nat} {xs:List PX} (hX:XIs w ao m xs) (hs:∀ x ∈ xs,smallX x) (hcap:m≤cap∧cap≤9223372036854775807) :
    Calls Tryz.prog 201 #[.slice ao m cap] w fun e w'=>e=.returned (.bool (soundXs xs))∧Below w.heap.size w w':=by
  have hm:=hX.2.1
  have HS:Hid (soundXs xs=soundFrom [] 0 0 xs):=Lib.hid (by unfold soundXs;rw [decide_eq_true (by rw [hX.1];exact hX.2.1)];rfl)
  have HL:=Lib.hid hX
  have HSM:=Lib.hid hs
  have HWL:=Lib.hid hX.1
  clear hX hs
  have SC:=st_cx
  go_enter Tryz.func201,Tryz.ntmps201
  go_wp2_with fail
  go_loopw [3,4,15] (fun ev bv iv wr=>∃ (i:Nat) (e b:Int),iv=.int .i64 (i:Int)∧ev=.int .i64 e∧bv=.int .i64 b∧i≤m∧(0≤e∧e≤600∧0≤b∧b≤600)∧Hid (Below w.heap.size w wr)∧Hid (∀ y ∈ xs.take i,runOk y.f y.c=true∧smallX y)∧Hid (soundXs xs=soundFrom (xs.take i) e b (xs.drop i))) (fun _ _ iv _=>m - (intOf iv).toNat)
  case atStart=>exact ⟨0,0,0,rfl,rfl,rfl,Nat.zero_le _,by decide,Lib.hid (Below.refl _ _),Lib.hid (by simp),HS⟩
  case round=>
    obtain ⟨i,e,b,rfl,rfl,rfl,hi,heb,HB,HQ,HF⟩:=hrel
    by_cases hlt:i < m
    · obtain ⟨g,off,x,p,q,rfl,hx,hmem,c1,c2,f1,f2⟩:=HL.out.at hlt
      have d1:wr.cell? ⟨g,off+i * 2,none⟩=some (.int .i64 x.a):=cell_later HB.out c1
      have d2:wr.cell? ⟨g,off+i * 2+1,none⟩=some (.complex .f64 p q):=cell_later HB.out c2
      have i1:(i:Int) < (m:Int):=by omega
      have i2:(i:Int)≤(cap:Int):=by omega
      have hsx:=HSM.out x hmem
      have cP:=fun W=>Parts_gen (.complex .f64 p q) x.f x.c W ⟨_,_,rfl,f1,f2⟩ hsx.2
      unfold partA partB partE at cP
      have HN:Hid (soundXs xs=(okX e b x&&(!((xs.take i).any (meetsX x))&&soundFrom (xs.take (i+1)) (x.a+x.c) (x.f+x.c) (xs.drop (i+1))))):=Lib.hid (by rw [HF.out,soundFrom_at hx])
      have HXT:Hid (XIs w (some ⟨g,off,none⟩) i (xs.take i)):=Lib.hid (HL.out.take (Nat.le_of_lt hlt))
      have HT1:=Lib.hid (take_at hx)
      have B1:Hid (Below w.heap.size w (wr.alloc (.cells #[.int .i64 x.a,.complex .f64 p q] 99))):=Lib.hid (HB.out.alloc HB.out.size _)
      obtain ⟨⟨ha0,ha1⟩,hf0,hf1,hc0,hc1⟩:=hsx
      have HF12:=Lib.hid (And.intro f1 f2)
      obtain ⟨a,f,c⟩:=x
      simp only at *
      clear hx c1 c2 f1 f2
      by_cases hok:runOk f c=true
      · rw [if_pos hok,if_pos hok,if_pos hok] at cP
        by_cases hf:59≤f
        · have hf':¬ f < 59:=by omega
          have hw96:IntKind.i64.wrap (96 - c)=96 - c:=by rw [IntKind.wrap_i64];omega
          by_cases hin:inN a e (96 - c)=true
          · have HIN:=Lib.hid hin
            have hin':e≤a∧a≤96 - c:=of_decide_eq_true hin
            have HOK:=Lib.hid hok
            have HN0:Hid (Below wr.heap.size wr (wr.alloc (.cells #[.int .i64 a,.complex .f64 p q] 99)).drew):=Lib.hid ((Below.refl _ _).alloc (Nat.le_refl _) _).drew
            have HK:Hid (∀ W,Below (wr.alloc (.cells #[.int .i64 a,.complex .f64 p q] 99)).drew.heap.size (wr.alloc (.cells #[.int .i64 a,.complex .f64 p q] 99)).drew W→W.cell? ⟨wr.heap.size,0,none⟩=some (.int .i64 a)∧W.cell? ⟨wr.heap.size,1,none⟩=some (.complex .f64 p q)∧Hid (Below wr.heap.size wr W)):=Lib.hid (fun W hW=>
              ⟨cell_later hW (show (wr.alloc (.cells #[.int .i64 a,.complex .f64 p q] 99)).cell? ⟨wr.heap.size,0,none⟩=_ by rw [World.cell?_alloc_new];rfl),cell_later hW (show (wr.alloc (.cells #[.int .i64 a,.complex .f64 p q] 99)).cell? ⟨wr.heap.size,1,none⟩=_ by rw [World.cell?_alloc_new];rfl),Lib.hid (HN0.out.trans (hW.mono HN0.out.size))⟩)
            have HM:Hid (∀ W,Below wr.heap.size wr W→Calls Tryz.prog 235 #[.agg #[.int .i64 a,.complex .f64 p q],.slice (some ⟨g,off,none⟩) i cap] W (fun e' w'=>e'=.returned (.bool ((xs.take i).any (meetsX ⟨a,f,c⟩)))∧Below W.heap.size W w')):=Lib.hid (fun W hW=>
              meets_any (cap:=cap) ((HXT.out.later HB.out).later hW) ⟨a,f,c⟩ p q HOK.out ⟨⟨ha0,ha1⟩,hf0,hf1,hc0,hc1⟩ HF12.out.1 HF12.out.2 HQ.out)
            have HA:Hid (¬ (a=e∧f=b)→soundXs xs=(!((xs.take i).any (meetsX ⟨a,f,c⟩))&&soundFrom (xs.take (i+1)) (a+c) (f+c) (xs.drop (i+1)))):=Lib.hid (fun h=>by
              rw [HN.out]
              unfold okX
              simp only
              rw [HOK.out,decide_eq_true hf,decide_eq_true hin',decide_eq_false h]
              rfl)
            have HQ1:Hid (∀ y ∈ xs.take (i+1),runOk y.f y.c=true∧smallX y):=Lib.hid (fun y hy=>by
              rw [HT1.out] at hy
              rcases List.mem_append.1 hy with hy | hy
              · exact HQ.out y hy
              · rw [List.mem_singleton] at hy
                subst hy
                exact ⟨HOK.out,⟨ha0,ha1⟩,hf0,hf1,hc0,hc1⟩)
            have hrun:=runOk_true hok
            have hz1:IntKind.i64.wrap (a+c)=a+c:=by rw [IntKind.wrap_i64];omega
            have hz2:IntKind.i64.wrap (f+c)=f+c:=by rw [IntKind.wrap_i64];omega
            by_cases hab:a=e∧f=b
            · have HA2:Hid (soundXs xs=false):=Lib.hid (by
                rw [HN.out]
                unfold okX
                simp only
                rw [decide_eq_true hab]
                simp)
              obtain ⟨g1,g2⟩:=hab
              have e1:(a == e)=true:=by simp [g1]
              have e2:(f == b)=true:=by simp [g2]
              have e3:decide (a=e)=true:=by simp [g1]
              have e4:decide (f=b)=true:=by simp [g2]
              clear g1 g2 hin hok
              go_wp2_with (first
                | (go_at_call 98;refine (cP _).mono ?_;rintro e' w3 ⟨rfl,rfl⟩)
                | (go_at_call 155;refine (within9_any _ _ _ _).mono ?_;rintro e' w3 ⟨rfl,rfl⟩;rw [HIN.out]))
              go_quiet (fail)
              go_wp2_with fail
              go_ret
              exact ⟨by rw [HA2.out];rfl,below_drewN B1.out _⟩
            · have HA2:=Lib.hid (HA.out hab)
              generalize (xs.take i).any (meetsX ⟨a,f,c⟩)=t at *
              by_cases hae:a=e
              · have hfb:¬ f=b:=fun h=>hab ⟨hae,h⟩
                have e1:(a == e)=true:=by simp [hae]
                have e2:(f == b)=false:=by simp [hfb]
                have e3:decide (a=e)=true:=by simp [hae]
                have e4:decide (f=b)=false:=by simp [hfb]
                clear hae hfb hab hin hok
                go_wp2_with (first
                  | (go_at_call 98;refine (cP _).mono ?_;rintro e' w3 ⟨rfl,rfl⟩)
                  | (go_at_call 155;refine (within9_any _ _ _ _).mono ?_;rintro e' w3 ⟨rfl,rfl⟩;rw [HIN.out]))
                go_region_held (fun W=>W.cell? ⟨wr.heap.size,0,none⟩=some (.int .i64 a)∧W.cell? ⟨wr.heap.size,1,none⟩=some (.complex .f64 p q)∧Hid (Below wr.heap.size wr W)) (first | exact HK.out _ (Below.refl _ _) | exact HK.out _ B5.out)
                  (first | (go_at_call 235;refine (HM.out _ HN0.out).mono ?_;rintro e' w5 ⟨rfl,hb5⟩;have B5:=Lib.hid hb5;clear hb5))
                all_goals
                  cases t with
                  | true=>
                    have HT:Hid (soundXs xs=false):=Lib.hid (by rw [HA2.out];rfl)
                    go_wp2_with fail
                    go_ret
                    exact ⟨by rw [HT.out];rfl,HB.out.trans ((HN0.out.trans (B5.out.mono HN0.out.size)).mono HB.out.size)⟩
                  | false=>
                    have HT:Hid (soundXs xs=soundFrom (xs.take (i+1)) (a+c) (f+c) (xs.drop (i+1))):=Lib.hid (by rw [HA2.out];rfl)
                    have k0:=(HK.out _ B5.out).1
                    go_wp2_with fail
                    go_roundw
                    case rel=>exact ⟨i+1,a+c,f+c,by go_num,rfl,rfl,by omega,by omega,Lib.hid (HB.out.trans ((HN0.out.trans (B5.out.mono HN0.out.size)).mono HB.out.size)),HQ1,HT⟩
                    case measure=>simp [intOf];omega
              · have e1:(a == e)=false:=by simp [hae]
                have e3:decide (a=e)=false:=by simp [hae]
                clear hae hab hin hok
                go_wp2_with (first
                  | (go_at_call 98;refine (cP _).mono ?_;rintro e' w3 ⟨rfl,rfl⟩)
                  | (go_at_call 155;refine (within9_any _ _ _ _).mono ?_;rintro e' w3 ⟨rfl,rfl⟩;rw [HIN.out]))
                refine wp_region_any (by kernel_rfl) ?_
                try (change wpAny _ _ _ _ _ _ _ (World.drew _))
                refine wpAny_take (i:=0) (oi:=⟨some 42,_,_,_,_,_⟩) (v:=?_) rfl (by kernel_rfl) (by kernel_rfl) (by kernel_rfl) (fun _ _ _ h=>h) (Or.inl ⟨by kernel_rfl,?_⟩) ?_
                rotate_left 1
                · (intro w;go_simp);try (with_reducible rfl)
                refine wpAny_take (i:=2) (oi:=⟨some 44,_,_,_,_,_⟩) (v:=?_) rfl (by kernel_rfl) (by kernel_rfl) (by kernel_rfl) (fun _ _ _ h=>h) (Or.inl ⟨by kernel_rfl,?_⟩) ?_
                rotate_left 1
                · (intro w;go_simp);try (with_reducible rfl)
                refine wpAny_ready (rs:=[1]) (by kernel_rfl) (by simp) ?_
                refine AllReady.cons (o:=⟨some 43,_,_,_,_,_⟩) rfl (fun K hK=>?_) AllReady.nil
                go_simp
                refine hK _ _ ?_
                clear hK K
                refine wpAny_take (i:=3) (oi:=⟨some 45,_,_,_,_,_⟩) (v:=?_) rfl (by kernel_rfl) (by kernel_rfl) (by kernel_rfl) (fun _ _ _ h=>h) (Or.inl ⟨by kernel_rfl,?_⟩) ?_
                rotate_left 1
                · (intro w;go_simp);try (with_reducible rfl)
                refine wpAny_take (i:=4) (oi:=⟨some 46,_,_,_,_,_⟩) (v:=?_) rfl (by kernel_rfl) (by kernel_rfl) (by kernel_rfl) (fun _ _ _ h=>h) (Or.inl ⟨by kernel_rfl,?_⟩) ?_
                rotate_left 1
                · (intro w;go_simp);try (with_reducible rfl)
                refine wpAny_take (i:=5) (oi:=⟨some 47,_,_,_,_,_⟩) (v:=undef) rfl (by kernel_rfl) (by kernel_rfl) (by kernel_rfl) (fun _ _ _ h=>h) (Or.inr ⟨by kernel_rfl,rfl⟩) ?_
                refine wpAny_take (i:=6) (oi:=⟨some 48,_,_,_,_,_⟩) (v:=undef) rfl (by kernel_rfl) (by kernel_rfl) (by kernel_rfl) (fun _ _ _ h=>h) (Or.inr ⟨by kernel_rfl,rfl⟩) ?_
                refine wpAny_take (i:=7) (oi:=⟨some 49,_,_,_,_,_⟩) (v:=undef) rfl (by kernel_rfl) (by kernel_rfl) (by kernel_rfl) (fun _ _ _ h=>h) (Or.inr ⟨by kernel_rfl,rfl⟩) ?_
                refine wpAny_take (i:=8) (oi:=⟨some 50,_,_,_,_,_⟩) (v:=?_) rfl (by kernel_rfl) (by kernel_rfl) (by kernel_rfl) (fun _ _ _ h=>h) (Or.inl ⟨by kernel_rfl,?_⟩) ?_
                rotate_left 1
                · (intro w;go_simp);try (with_reducible rfl)
                refine wpAny_take (i:=9) (oi:=⟨some 51,_,_,_,_,_⟩) (v:=?_) rfl (by kernel_rfl) (by kernel_rfl) (by kernel_rfl) (fun _ _ _ h=>h) (Or.inl ⟨by kernel_rfl,?_⟩) ?_
                rotate_left 1
                · (intro w;go_simp);try (with_reducible rfl)
                refine wpAny_take (i:=11) (oi:=⟨some 53,_,_,_,_,_⟩) (v:=?_) rfl (by kernel_rfl) (by kernel_rfl) (by kernel_rfl) (fun _ _ _ h=>h) (Or.inl ⟨by kernel_rfl,?_⟩) ?_
                rotate_left 1
                · (intro w;go_simp);try (with_reducible rfl)
                refine wpAny_take (i:=12) (oi:=⟨some 54,_,_,_,_,_⟩) (v:=?_) rfl (by kernel_rfl) (by kernel_rfl) (by kernel_rfl) (fun _ _ _ h=>h) (Or.inl ⟨by kernel_rfl,?_⟩) ?_
                rotate_left 1
                · (intro w;go_simp);try (with_reducible rfl)
                refine wpAny_take (i:=13) (oi:=⟨some 55,_,_,_,_,_⟩) (v:=?_) rfl (by kernel_rfl) (by kernel_rfl) (by kernel_rfl) (fun _ _ _ h=>h) (Or.inl ⟨by kernel_rfl,?_⟩) ?_
                rotate_left 1
                · (intro w;go_simp);try (with_reducible rfl)
                refine wpAny_ready (rs:=[10]) (by kernel_rfl) (by simp) ?_
                refine AllReady.cons (o:=⟨some 52,_,_,_,_,_⟩) rfl (fun K hK=>?_) AllReady.nil
                go_simp
                refine hK _ _ ?_
                clear hK K
                refine wpAny_ready (rs:=[14]) (by kernel_rfl) (by simp) ?_
                refine AllReady.cons (o:=⟨some 56,_,_,_,_,_⟩) rfl (fun K hK=>?_) AllReady.nil
                go_simp
                go_wp2_with (first | (go_at_call 235;refine (HM.out _ HN0.out).mono ?_;rintro e' w5 ⟨rfl,hb5⟩;have B5:=Lib.hid hb5;clear hb5))
                refine wpAny_take (i:=15) (oi:=⟨some 57,_,_,_,_,_⟩) (v:=?_) rfl (by kernel_rfl) (by kernel_rfl) (by kernel_rfl) (fun _ _ _ h=>h) (Or.inl ⟨by kernel_rfl,?_⟩) ?_
                rotate_left 1
                · (intro w;go_simp);try (with_reducible rfl)
                refine wpAny_done (by kernel_rfl) ?_ _
                go_simp
                all_goals
                  cases t with
                  | true=>
                    have HT:Hid (soundXs xs=false):=Lib.hid (by rw [HA2.out];rfl)
                    go_wp2_with fail
                    go_ret
                    exact ⟨by rw [HT.out];rfl,HB.out.trans ((HN0.out.trans (B5.out.mono HN0.out.size)).mono HB.out.size)⟩
                  | false=>
                    have HT:Hid (soundXs xs=soundFrom (xs.take (i+1)) (a+c) (f+c) (xs.drop (i+1))):=Lib.hid (by rw [HA2.out];rfl)
                    have k0:=(HK.out _ B5.out).1
                    go_wp2_with fail
                    go_roundw
                    case rel=>exact ⟨i+1,a+c,f+c,by go_num,rfl,rfl,by omega,by omega,Lib.hid (HB.out.trans ((HN0.out.trans (B5.out.mono HN0.out.size)).mono HB.out.size)),HQ1,HT⟩
                    case measure=>simp [intOf];omega
          · rw [Bool.not_eq_true] at hin
            have HIN:=Lib.hid hin
            have HA:Hid (soundXs xs=false):=Lib.hid (by rw [HN.out,okX_parts];simp only;rw [hin];simp)
            clear hin
            go_wp2_with (first
              | (go_at_call 98;refine (cP _).mono ?_;rintro e' w3 ⟨rfl,rfl⟩)
              | (go_at_call 155;refine (within9_any _ _ _ _).mono ?_;rintro e' w3 ⟨rfl,rfl⟩;rw [HIN.out]))
            go_ret
            exact ⟨by rw [HA.out];rfl,B1.out⟩
        · have hf':f < 59:=by omega
          have HA:Hid (soundXs xs=false):=Lib.hid (by rw [HN.out,okX_parts];simp only;rw [decide_eq_false hf];simp)
          go_wp2_with (go_at_call 98;refine (cP _).mono ?_;rintro e' w3 ⟨rfl,rfl⟩)
          go_ret
          exact ⟨by rw [HA.out];rfl,B1.out⟩
      · rw [if_neg hok,if_neg hok,if_neg hok] at cP
        rw [Bool.not_eq_true] at hok
        have HA:Hid (soundXs xs=false):=Lib.hid (by rw [HN.out,okX_parts];simp only;rw [hok];simp)
        clear hok
        go_wp2_with (go_at_call 98;refine (cP _).mono ?_;rintro e' w3 ⟨rfl,rfl⟩)
        go_ret
        exact ⟨by rw [HA.out];rfl,B1.out⟩
    · have hin:i=m:=by omega
      subst hin
      have HA:Hid (soundXs xs=true):=Lib.hid (by rw [HF.out,← HWL.out,List.drop_length];rfl)
      go_wp2_with fail
      go_ret
      exact ⟨by rw [HA.out];rfl,HB.out⟩
end Go.Proofs.YtcefmpnijjcekaaGreatDoor
namespace Go.Proofs.YtcefmpnijjcekaaGreatDoor
open Go.RowKit
theorem eqD_any:∀ (a b c d e f g h:Int) (w:World),(Op.equalIn 10000 65 (.agg #[.int .i64 a,.int .i64 b,.int .i64 c,.int .i64 d]) (.agg #[.int .i64 e,.int .i64 f,.int .i64 g,.int .i64 h])).run Tryz.prog w=.ok (a == e&&(b == f&&(c == g&&d == h))) w:=by
  intro a b c d e f g h w
  have u3:=Tryz.underlying3
  have a3:=Tryz.isAgg3
  have z3:=Tryz.sizeOf3
  rw [show (10000:Nat)=9999+1 from rfl,Op.equalIn]
  simp only [Sem.run_bind,run_underlying Tryz.underlying65,Result.andThen_ok]
  simp only [Std.Legacy.Range.forIn_eq_forIn_range',Std.Legacy.Range.size,Nat.sub_zero,Nat.add_sub_cancel,Nat.div_one,List.range'_succ,List.range'_zero,List.forIn_cons,List.forIn_nil]
  go_simp
  by_cases h1:a=e <;> by_cases h2:b=f <;> by_cases h3:c=g <;> by_cases h4:d=h <;> simp [h1,h2,h3,h4]
theorem eqS_any:∀ (a b c e f g:Int) (w:World),(Op.equalIn 10000 203 (.agg #[.int .i64 a,.int .i64 b,.int .i64 c]) (.agg #[.int .i64 e,.int .i64 f,.int .i64 g])).run Tryz.prog w=.ok (a == e&&(b == f&&c == g)) w:=by
  intro a b c e f g w
  have u3:=Tryz.underlying3
  have a3:=Tryz.isAgg3
  have z3:=Tryz.sizeOf3
  have hS:Tryz.prog.underlying 203=some (.struct (Tryz.prog.fieldsOf 203)):=by kernel_rfl
  rw [show (10000:Nat)=9999+1 from rfl,run_equalIn_agg w 9999 203 _ _ hS (by kernel_rfl)]
  simp only [Program.fieldsOf,Tryz.underlying203]
  go_simp
  by_cases h1:a=e <;> by_cases h2:b=f <;> by_cases h3:c=g <;> simp [h1,h2,h3]
end Go.Proofs.YtcefmpnijjcekaaGreatDoor
namespace Go.Proofs.YtcefmpnijjcekaaGreatDoor
open Go.RowKit
theorem slicesEq_nil {w:World} {ao:Option Addr} {m c1:Nat} (hm:m≤3) :
    Calls Tryz.prog 196 #[.slice ao m c1,.slice none 0 0] w fun e w'=>e=.returned (.bool (decide (m=0)))∧w=w':=by
  by_cases h:m=0
  · subst h
    go_enter Tryz.func196,Tryz.ntmps196
    go_wp2_with fail
    go_loopw [13] (fun iv wr=>iv=.int .i64 0∧w=wr) (fun iv _=>0)
    case atStart=>exact ⟨rfl,rfl⟩
    case round=>
      obtain ⟨rfl,rfl⟩:=hrel
      go_wp2_with fail
      go_ret
      exact ⟨rfl,rfl⟩
  · rw [decide_eq_false h]
    have h1:((m:Int) != 0)=true:=by simp;omega
    go_enter Tryz.func196,Tryz.ntmps196
    go_wp2_with fail
    go_ret
    exact ⟨rfl,rfl⟩
end Go.Proofs.YtcefmpnijjcekaaGreatDoor
namespace Go.Proofs.YtcefmpnijjcekaaGreatDoor
open Go.RowKit
set_option maxHeartbeats 3200000 in
theorem same9_none (n:PNode) (hk:n.k=0) {ao:Option Addr} {m c1:Nat} (w:World) (hX:XIs w ao m n.x) :
    Calls Tryz.prog 154 #[n.val (.slice ao m c1),noNode.val (.slice none 0 0)] w fun e w'=>e=.returned (.bool (decide (n=noNode)))∧Below w.heap.size w w':=by
  obtain ⟨k,f,l,z,d0,d1,d2,d3,s,t,x,c⟩:=n
  have hk':k=0:=hk
  subst hk'
  clear hk
  have hm:=hX.2.1
  have hxl:x.length=m:=hX.1
  unfold noNode PNode.val
  simp only
  have ED:=eqD_any
  have HB:Hid (Below w.heap.size w ((w.alloc (.cells #[.int .i64 0,.int .i64 f,.int .i64 l,.int .i64 z,.int .i64 d0,.int .i64 d1,.int .i64 d2,.int .i64 d3,.int .i64 s,.int .i64 t,.slice ao m c1,.int .i64 c] 68)).alloc (.cells #[.int .i64 0,.int .i64 0,.int .i64 0,.int .i64 0,.int .i64 0,.int .i64 0,.int .i64 0,.int .i64 0,.int .i64 0,.int .i64 0,.slice none 0 0,.int .i64 0] 68))):=Lib.hid (((Below.refl _ _).alloc (Nat.le_refl _) _).alloc (by simp) _)
  have cE:=fun W=>slicesEq_nil (ao:=ao) (c1:=c1) (w:=W) hm
  clear hX
  by_cases hf:f=0
  case neg=>
    have HV:Hid (decide ((⟨0,f,l,z,d0,d1,d2,d3,s,t,x,c⟩:PNode)=⟨0,0,0,0,0,0,0,0,0,0,[],0⟩)=false):=Lib.hid (decide_eq_false (fun h=>by injection h with _ hh _ _ _ _ _ _ _ _ _ _;exact hf hh))
    have e1:(f == 0)=false:=by simp [hf]
    have e2:decide (f=0)=false:=by simp [hf]
    clear hf
    go_enter Tryz.func154,Tryz.ntmps154
    go_wp2_with (go_at_call 196;refine (cE _).mono ?_;rintro e w' ⟨rfl,rfl⟩)
    go_ret
    exact ⟨by rw [HV.out];rfl,HB.out⟩
  obtain rfl:=hf
  by_cases hl:l=0
  case neg=>
    have HV:Hid (decide ((⟨0,0,l,z,d0,d1,d2,d3,s,t,x,c⟩:PNode)=⟨0,0,0,0,0,0,0,0,0,0,[],0⟩)=false):=Lib.hid (decide_eq_false (fun h=>by injection h with _ _ hh _ _ _ _ _ _ _ _ _;exact hl hh))
    have e1:(l == 0)=false:=by simp [hl]
    have e2:decide (l=0)=false:=by simp [hl]
    clear hl
    go_enter Tryz.func154,Tryz.ntmps154
    go_wp2_with (go_at_call 196;refine (cE _).mono ?_;rintro e w' ⟨rfl,rfl⟩)
    go_ret
    exact ⟨by rw [HV.out];rfl,HB.out⟩
  obtain rfl:=hl
  by_cases hz:z=0
  case neg=>
    have HV:Hid (decide ((⟨0,0,0,z,d0,d1,d2,d3,s,t,x,c⟩:PNode)=⟨0,0,0,0,0,0,0,0,0,0,[],0⟩)=false):=Lib.hid (decide_eq_false (fun h=>by injection h with _ _ _ hh _ _ _ _ _ _ _ _;exact hz hh))
    have e1:(z == 0)=false:=by simp [hz]
    have e2:decide (z=0)=false:=by simp [hz]
    clear hz
    go_enter Tryz.func154,Tryz.ntmps154
    go_wp2_with (go_at_call 196;refine (cE _).mono ?_;rintro e w' ⟨rfl,rfl⟩)
    go_ret
    exact ⟨by rw [HV.out];rfl,HB.out⟩
  obtain rfl:=hz
  by_cases hd0:d0=0
  case neg=>
    have HV:Hid (decide ((⟨0,0,0,0,d0,d1,d2,d3,s,t,x,c⟩:PNode)=⟨0,0,0,0,0,0,0,0,0,0,[],0⟩)=false):=Lib.hid (decide_eq_false (fun h=>by injection h with _ _ _ _ hh _ _ _ _ _ _ _;exact hd0 hh))
    have e1:(d0 == 0)=false:=by simp [hd0]
    have e2:decide (d0=0)=false:=by simp [hd0]
    clear hd0
    go_enter Tryz.func154,Tryz.ntmps154
    go_wp2_with (go_at_call 196;refine (cE _).mono ?_;rintro e w' ⟨rfl,rfl⟩)
    go_ret
    exact ⟨by rw [HV.out];rfl,HB.out⟩
  obtain rfl:=hd0
  by_cases hd1:d1=0
  case neg=>
    have HV:Hid (decide ((⟨0,0,0,0,0,d1,d2,d3,s,t,x,c⟩:PNode)=⟨0,0,0,0,0,0,0,0,0,0,[],0⟩)=false):=Lib.hid (decide_eq_false (fun h=>by injection h with _ _ _ _ _ hh _ _ _ _ _ _;exact hd1 hh))
    have e1:(d1 == 0)=false:=by simp [hd1]
    have e2:decide (d1=0)=false:=by simp [hd1]
    clear hd1
    go_enter Tryz.func154,Tryz.ntmps154
    go_wp2_with (go_at_call 196;refine (cE _).mono ?_;rintro e w' ⟨rfl,rfl⟩)
    go_ret
    exact ⟨by rw [HV.out];rfl,HB.out⟩
  obtain rfl:=hd1
  by_cases hd2:d2=0
  case neg=>
    have HV:Hid (decide ((⟨0,0,0,0,0,0,d2,d3,s,t,x,c⟩:PNode)=⟨0,0,0,0,0,0,0,0,0,0,[],0⟩)=false):=Lib.hid (decide_eq_false (fun h=>by injection h with _ _ _ _ _ _ hh _ _ _ _ _;exact hd2 hh))
    have e1:(d2 == 0)=false:=by simp [hd2]
    have e2:decide (d2=0)=false:=by simp [hd2]
    clear hd2
    go_enter Tryz.func154,Tryz.ntmps154
    go_wp2_with (go_at_call 196;refine (cE _).mono ?_;rintro e w' ⟨rfl,rfl⟩)
    go_ret
    exact ⟨by rw [HV.out];rfl,HB.out⟩
  obtain rfl:=hd2
  by_cases hd3:d3=0
  case neg=>
    have HV:Hid (decide ((⟨0,0,0,0,0,0,0,d3,s,t,x,c⟩:PNode)=⟨0,0,0,0,0,0,0,0,0,0,[],0⟩)=false):=Lib.hid (decide_eq_false (fun h=>by injection h with _ _ _ _ _ _ _ hh _ _ _ _;exact hd3 hh))
    have e1:(d3 == 0)=false:=by simp [hd3]
    have e2:decide (d3=0)=false:=by simp [hd3]
    clear hd3
    go_enter Tryz.func154,Tryz.ntmps154
    go_wp2_with (go_at_call 196;refine (cE _).mono ?_;rintro e w' ⟨rfl,rfl⟩)
    go_ret
    exact ⟨by rw [HV.out];rfl,HB.out⟩
  obtain rfl:=hd3
  by_cases hs:s=0
  case neg=>
    have HV:Hid (decide ((⟨0,0,0,0,0,0,0,0,s,t,x,c⟩:PNode)=⟨0,0,0,0,0,0,0,0,0,0,[],0⟩)=false):=Lib.hid (decide_eq_false (fun h=>by injection h with _ _ _ _ _ _ _ _ hh _ _ _;exact hs hh))
    have e1:(s == 0)=false:=by simp [hs]
    have e2:decide (s=0)=false:=by simp [hs]
    clear hs
    go_enter Tryz.func154,Tryz.ntmps154
    go_wp2_with (go_at_call 196;refine (cE _).mono ?_;rintro e w' ⟨rfl,rfl⟩)
    go_ret
    exact ⟨by rw [HV.out];rfl,HB.out⟩
  obtain rfl:=hs
  by_cases ht:t=0
  case neg=>
    have HV:Hid (decide ((⟨0,0,0,0,0,0,0,0,0,t,x,c⟩:PNode)=⟨0,0,0,0,0,0,0,0,0,0,[],0⟩)=false):=Lib.hid (decide_eq_false (fun h=>by injection h with _ _ _ _ _ _ _ _ _ hh _ _;exact ht hh))
    have e1:(t == 0)=false:=by simp [ht]
    have e2:decide (t=0)=false:=by simp [ht]
    clear ht
    go_enter Tryz.func154,Tryz.ntmps154
    go_wp2_with (go_at_call 196;refine (cE _).mono ?_;rintro e w' ⟨rfl,rfl⟩)
    go_ret
    exact ⟨by rw [HV.out];rfl,HB.out⟩
  obtain rfl:=ht
  by_cases hx:m=0
  case neg=>
    have HV:Hid (decide ((⟨0,0,0,0,0,0,0,0,0,0,x,c⟩:PNode)=⟨0,0,0,0,0,0,0,0,0,0,[],0⟩)=false):=Lib.hid (decide_eq_false (fun h=>by injection h with _ _ _ _ _ _ _ _ _ _ hh _;apply hx;rw [← hxl,hh];rfl))
    have dx:decide (m=0)=false:=decide_eq_false hx
    rw [dx] at cE
    clear hx
    go_enter Tryz.func154,Tryz.ntmps154
    go_wp2_with (go_at_call 196;refine (cE _).mono ?_;rintro e w' ⟨rfl,rfl⟩)
    go_ret
    exact ⟨by rw [HV.out];rfl,HB.out⟩
  have hx0:x=[]:=List.length_eq_zero_iff.1 (by rw [hxl,hx])
  have dx:decide (m=0)=true:=decide_eq_true hx
  rw [dx] at cE
  clear hx hxl
  subst hx0
  by_cases hc:c=0
  case neg=>
    have HV:Hid (decide ((⟨0,0,0,0,0,0,0,0,0,0,[],c⟩:PNode)=⟨0,0,0,0,0,0,0,0,0,0,[],0⟩)=false):=Lib.hid (decide_eq_false (fun h=>by injection h with _ _ _ _ _ _ _ _ _ _ _ hh;exact hc hh))
    have e1:(c == 0)=false:=by simp [hc]
    have e2:decide (c=0)=false:=by simp [hc]
    clear hc
    go_enter Tryz.func154,Tryz.ntmps154
    go_wp2_with (go_at_call 196;refine (cE _).mono ?_;rintro e w' ⟨rfl,rfl⟩)
    go_ret
    exact ⟨by rw [HV.out];rfl,HB.out⟩
  obtain rfl:=hc
  have HV:Hid (decide ((⟨0,0,0,0,0,0,0,0,0,0,[],0⟩:PNode)=⟨0,0,0,0,0,0,0,0,0,0,[],0⟩)=true):=Lib.hid (decide_eq_true rfl)
  go_enter Tryz.func154,Tryz.ntmps154
  go_wp2_with (go_at_call 196;refine (cE _).mono ?_;rintro e w' ⟨rfl,rfl⟩)
  go_ret
  exact ⟨by rw [HV.out];rfl,HB.out⟩
end Go.Proofs.YtcefmpnijjcekaaGreatDoor
namespace Go.Proofs.YtcefmpnijjcekaaGreatDoor
open Go.RowKit
theorem drew_of9 (w:World):{ w with drawn:=w.drawn+1 }=w.drew:=rfl
def PtrsAre (w:World) (b g:Nat):Prop:=∀ j,j < 6→w.cell? ⟨b,j,none⟩=some (.pointer (some ⟨g,4+j,none⟩))
theorem new_cell9 (w:World) (cs:Array Value) (T:TypeId) (j:Nat) (v:Value) (h:cs[j]?=some v):(w.alloc (.cells cs T)).drew.cell? ⟨w.heap.size,j,none⟩=some v:=by
  show (w.alloc (.cells cs T)).cell? ⟨w.heap.size,j,none⟩=some v
  rw [World.cell?_alloc_new];exact h
set_option maxRecDepth 100000 in
set_option maxHeartbeats 800000 in
theorem pointers_any (g:Nat) (w:World):Calls Tryz.prog 191 #[.pointer (some ⟨g,0,none⟩)] w fun e w'=>e=.returned (.slice (some ⟨w.heap.size,0,none⟩) (6:Nat) (6:Nat))∧PtrsAre w' w.heap.size g∧Below w.heap.size w w':=by
  go_enter Tryz.func191,Tryz.ntmps191
  go_wp2_with fail
  refine wp_region_still_tail 22 (by kernel_rfl) (by kernel_rfl) ?_
  simp only [List.take_succ_cons,List.take_zero,List.drop_succ_cons,List.drop_zero]
  try rw [drew_of9]
  iterate 22 still_step
  refine wpStill_nil ?_
  go_wp2_with fail
  go_ret
  refine ⟨rfl,fun j hj=>?_,((Below.refl _ _).alloc (Nat.le_refl _) _).drew⟩
  match j,hj with
  | 0,_ | 1,_ | 2,_ | 3,_ | 4,_ | 5,_=>exact new_cell9 w _ _ _ _ rfl
theorem map1_any (p:Int) (g o:Nat) (w:World) (hc:w.cell? ⟨g,o,none⟩=some (.int .i64 p)):Calls Tryz.prog 198 #[.pointer (some ⟨g,o,none⟩)] w fun e w'=>e=.returned (.bool (!ptrOk p))∧w=w':=by
  have c:=soundPointer_any p w
  generalize ptrOk p=t at *
  go_enter Tryz.func198,Tryz.ntmps198
  go_wp2_with (go_at_call 199;refine c.mono ?_;rintro e w' ⟨rfl,rfl⟩)
  go_ret
  exact ⟨rfl,rfl⟩
def not0 (p:Int):Bool:=!decide (p=0)
theorem map2_any (p:Int) (g o:Nat) (w:World) (hc:w.cell? ⟨g,o,none⟩=some (.int .i64 p)):Calls Tryz.prog 200 #[.pointer (some ⟨g,o,none⟩)] w fun e w'=>e=.returned (.bool (not0 p))∧w=w':=by
  unfold not0
  by_cases h:p=0
  · subst h
    go_enter Tryz.func200,Tryz.ntmps200
    go_wp2_with fail
    go_ret
    exact ⟨rfl,rfl⟩
  · have h1:(p != 0)=true:=by simp [h]
    have h2:decide (p=0)=false:=by simp [h]
    rw [h2]
    clear h
    go_enter Tryz.func200,Tryz.ntmps200
    go_wp2_with fail
    go_ret
    exact ⟨rfl,rfl⟩
theorem any_take_i {p:Int→Bool} {l:List Int} {i:Nat} {x:Int} (h:l[i]?=some x) (h0:(l.take i).any p=false):(l.take (i+1)).any p=p x:=by
  rw [List.take_add_one,h,List.any_append,h0]
  simp
theorem any_of_take_i {p:Int→Bool} {l:List Int} {i:Nat} (h:(l.take i).any p=true):l.any p=true:=by
  rw [List.any_eq_true] at h ⊢
  obtain ⟨x,hx,hp⟩:=h
  exact ⟨x,List.mem_of_mem_take hx,hp⟩
def SixAre (w:World) (g:Nat) (l:List Int):Prop:=l.length=6∧∀ j x,l[j]?=some x→w.cell? ⟨g,4+j,none⟩=some (.int .i64 x)
set_option maxRecDepth 100000 in
set_option maxHeartbeats 1600000 in
theorem indexP1_any {w:World} {b g:Nat} {l:List Int} (hp:PtrsAre w b g) (hl:SixAre w g l) :
    Calls Tryz.prog 234 #[.slice (some ⟨b,0,none⟩) (6:Nat) (6:Nat),.func (.func 198) #[] #[]] w fun e w'=>∃ r:Int,e=.returned (.int .i64 r)∧decide (0≤r)=l.any (fun p=>!ptrOk p)∧(-1≤r∧r≤6)∧w=w':=by
  have HP:=Lib.hid hp
  have HL:=Lib.hid hl
  clear hp hl
  go_enter Tryz.func234,Tryz.ntmps234
  go_wp2_with fail
  go_loopw [8] (fun iv wr=>∃ i:Nat,iv=.int .i64 (i:Int)∧i≤6∧Hid (w=wr)∧Hid ((l.take i).any (fun p=>!ptrOk p)=false)) (fun iv _=>6 - (intOf iv).toNat)
  case atStart=>exact ⟨0,rfl,Nat.zero_le _,Lib.hid rfl,Lib.hid rfl⟩
  case round=>
    obtain ⟨i,rfl,hi,HB,HQ⟩:=hrel
    by_cases hlt:i < 6
    · obtain ⟨x,hx⟩:∃ x,l[i]?=some x:=⟨_,List.getElem?_eq_getElem (by rw [HL.out.1];exact hlt)⟩
      have d1:wr.cell? ⟨b,i,none⟩=some (.pointer (some ⟨g,4+i,none⟩)):=by rw [← HB.out];exact HP.out i hlt
      have d2:wr.cell? ⟨g,4+i,none⟩=some (.int .i64 x):=by rw [← HB.out];exact HL.out.2 i x hx
      have cF:=map1_any x g (4+i) wr d2
      have i1:(i:Int) < 6:=by omega
      have HX:=Lib.hid hx
      clear hx d2
      by_cases hv:(fun p=>!ptrOk p) x=true
      · have HS:=Lib.hid ((any_take_i (p:=(fun p=>!ptrOk p)) HX.out HQ.out).trans hv)
        have HV:=Lib.hid (any_of_take_i HS.out)
        rw [show (!ptrOk x)=true from hv] at cF
        clear hv HS
        go_wp2_with (go_at_call 198;refine cF.mono ?_;rintro e w3 ⟨rfl,rfl⟩)
        go_ret
        exact ⟨(i:Int),rfl,by rw [HV.out];exact decide_eq_true (by omega),by omega,HB.out⟩
      · rw [Bool.not_eq_true] at hv
        have HS:=Lib.hid ((any_take_i (p:=(fun p=>!ptrOk p)) HX.out HQ.out).trans hv)
        rw [show (!ptrOk x)=false from hv] at cF
        clear hv
        go_wp2_with (go_at_call 198;refine cF.mono ?_;rintro e w3 ⟨rfl,rfl⟩)
        go_roundw
        case rel=>exact ⟨i+1,by go_num,by omega,HB,HS⟩
        case measure=>simp [intOf];omega
    · have hin:i=6:=by omega
      subst hin
      go_wp2_with fail
      go_ret
      refine ⟨-1,rfl,?_,by omega,HB.out⟩
      have h:=HQ.out
      rw [← HL.out.1,List.take_length] at h
      rw [h]
      rfl
theorem containsP1_any {w:World} {b g:Nat} {l:List Int} (hp:PtrsAre w b g) (hl:SixAre w g l) :
    Calls Tryz.prog 197 #[.slice (some ⟨b,0,none⟩) (6:Nat) (6:Nat),.func (.func 198) #[] #[]] w fun e w'=>e=.returned (.bool (l.any (fun p=>!ptrOk p)))∧w=w':=by
  have c:=indexP1_any hp hl
  clear hp hl
  go_enter Tryz.func197,Tryz.ntmps197
  go_wp2_with (go_at_call 234;refine c.mono ?_;rintro e w2 ⟨r,rfl,hr,hrb,rfl⟩;have HR:=Lib.hid hr;clear hr)
  go_ret
  exact ⟨by rw [← HR.out];rfl,rfl⟩
set_option maxRecDepth 100000 in
set_option maxHeartbeats 1600000 in
theorem indexP2_any {w:World} {b g:Nat} {l:List Int} (hp:PtrsAre w b g) (hl:SixAre w g l) :
    Calls Tryz.prog 234 #[.slice (some ⟨b,0,none⟩) (6:Nat) (6:Nat),.func (.func 200) #[] #[]] w fun e w'=>∃ r:Int,e=.returned (.int .i64 r)∧decide (0≤r)=l.any not0∧(-1≤r∧r≤6)∧w=w':=by
  have HP:=Lib.hid hp
  have HL:=Lib.hid hl
  clear hp hl
  go_enter Tryz.func234,Tryz.ntmps234
  go_wp2_with fail
  go_loopw [8] (fun iv wr=>∃ i:Nat,iv=.int .i64 (i:Int)∧i≤6∧Hid (w=wr)∧Hid ((l.take i).any not0=false)) (fun iv _=>6 - (intOf iv).toNat)
  case atStart=>exact ⟨0,rfl,Nat.zero_le _,Lib.hid rfl,Lib.hid rfl⟩
  case round=>
    obtain ⟨i,rfl,hi,HB,HQ⟩:=hrel
    by_cases hlt:i < 6
    · obtain ⟨x,hx⟩:∃ x,l[i]?=some x:=⟨_,List.getElem?_eq_getElem (by rw [HL.out.1];exact hlt)⟩
      have d1:wr.cell? ⟨b,i,none⟩=some (.pointer (some ⟨g,4+i,none⟩)):=by rw [← HB.out];exact HP.out i hlt
      have d2:wr.cell? ⟨g,4+i,none⟩=some (.int .i64 x):=by rw [← HB.out];exact HL.out.2 i x hx
      have cF:=map2_any x g (4+i) wr d2
      have i1:(i:Int) < 6:=by omega
      have HX:=Lib.hid hx
      clear hx d2
      by_cases hv:not0 x=true
      · have HS:=Lib.hid ((any_take_i (p:=not0) HX.out HQ.out).trans hv)
        have HV:=Lib.hid (any_of_take_i HS.out)
        rw [show not0 x=true from hv] at cF
        clear hv HS
        go_wp2_with (go_at_call 200;refine cF.mono ?_;rintro e w3 ⟨rfl,rfl⟩)
        go_ret
        exact ⟨(i:Int),rfl,by rw [HV.out];exact decide_eq_true (by omega),by omega,HB.out⟩
      · rw [Bool.not_eq_true] at hv
        have HS:=Lib.hid ((any_take_i (p:=not0) HX.out HQ.out).trans hv)
        rw [show not0 x=false from hv] at cF
        clear hv
        go_wp2_with (go_at_call 200;refine cF.mono ?_;rintro e w3 ⟨rfl,rfl⟩)
        go_roundw
        case rel=>exact ⟨i+1,by go_num,by omega,HB,HS⟩
        case measure=>simp [intOf];omega
    · have hin:i=6:=by omega
      subst hin
      go_wp2_with fail
      go_ret
      refine ⟨-1,rfl,?_,by omega,HB.out⟩
      have h:=HQ.out
      rw [← HL.out.1,List.take_length] at h
      rw [h]
      rfl
theorem containsP2_any {w:World} {b g:Nat} {l:List Int} (hp:PtrsAre w b g) (hl:SixAre w g l) :
    Calls Tryz.prog 197 #[.slice (some ⟨b,0,none⟩) (6:Nat) (6:Nat),.func (.func 200) #[] #[]] w fun e w'=>e=.returned (.bool (l.any not0))∧w=w':=by
  have c:=indexP2_any hp hl
  clear hp hl
  go_enter Tryz.func197,Tryz.ntmps197
  go_wp2_with (go_at_call 234;refine c.mono ?_;rintro e w2 ⟨r,rfl,hr,hrb,rfl⟩;have HR:=Lib.hid hr;clear hr)
  go_ret
  exact ⟨by rw [← HR.out];rfl,rfl⟩
end Go.Proofs.YtcefmpnijjcekaaGreatDoor
namespace Go.Proofs.YtcefmpnijjcekaaGreatDoor
open Go.RowKit
abbrev Pl:=Int × Int × Nat
def placeV (g:Nat) (p:Pl):List Value:=[.int .i64 p.1,.int .i64 p.2.1,.pointer (some ⟨g,p.2.2,none⟩)]
def placesV (g:Nat) (ps:List Pl):List Value:=ps.flatMap (placeV g)
def headPs9:List Pl:=[(0,1,0),(1,1,1),(2,2,2),(4,2,3)]
def oldPs:List Pl:=[(6,2,4),(8,2,5),(10,2,6),(12,2,7),(14,2,8),(16,2,9)]
def slotPs:List Pl:=[(6,1,12),(7,2,13),(9,1,14),(10,1,15),(11,2,16),(13,1,17),(14,1,18),(15,2,19),(17,1,20)]
def newPs:List Pl:=slotPs ++ [(18,2,11)]
def bodyPs (f:Int):List Pl:=if f=1 then oldPs else if f=2 then newPs else []
theorem placesV_length (g:Nat) (ps:List Pl):(placesV g ps).length=ps.length * 3:=by
  unfold placesV
  induction ps with
  | nil=>rfl
  | cons p r ih=>rw [List.flatMap_cons,List.length_append,ih];show 3+_=_;rw [List.length_cons];omega
theorem placesV_append (g:Nat) (ps qs:List Pl):placesV g (ps ++ qs)=placesV g ps ++ placesV g qs:=by
  unfold placesV;rw [List.flatMap_append]
theorem placesV_at (g:Nat):∀ (ps:List Pl) (i:Nat) (p:Pl),ps[i]?=some p→(placesV g ps)[i * 3]?=some (.int .i64 p.1)∧(placesV g ps)[i * 3+1]?=some (.int .i64 p.2.1)∧(placesV g ps)[i * 3+2]?=some (.pointer (some ⟨g,p.2.2,none⟩))
  | [],i,p,h=>by simp at h
  | q::r,0,p,h=>by
    simp at h
    subst h
    exact ⟨rfl,rfl,rfl⟩
  | q::r,i+1,p,h=>by
    have h':r[i]?=some p:=by simpa using h
    obtain ⟨h1,h2,h3⟩:=placesV_at g r i p h'
    have e:placesV g (q::r)=placeV g q ++ placesV g r:=rfl
    rw [e,show (i+1) * 3=3+i * 3 by omega]
    have l3:(placeV g q).length=3:=rfl
    refine ⟨?_,?_,?_⟩
    · rw [List.getElem?_append_right (by omega),l3,show 3+i * 3 - 3=i * 3 by omega];exact h1
    · rw [List.getElem?_append_right (by omega),l3,show 3+i * 3+1 - 3=i * 3+1 by omega];exact h2
    · rw [List.getElem?_append_right (by omega),l3,show 3+i * 3+2 - 3=i * 3+2 by omega];exact h3
theorem placesV_one (g:Nat) (ps:List Pl):∀ u ∈ placesV g ps,u.oneCell'=true:=by
  intro u hu
  unfold placesV at hu
  obtain ⟨p,_,hp⟩:=List.mem_flatMap.1 hu
  unfold placeV at hp
  simp at hp
  rcases hp with rfl | rfl | rfl <;> rfl
def Places (w:World) (base g:Nat) (v:Value) (ps:List Pl):Prop:=w.ownsRow base 218 3 v ps.length (placesV g ps)
def ElemK9 (t e:TypeId) (z:Value) (sz nb:Nat):Prop:=
  Tryz.prog.underlying t=some (.slice e)∧(Tryz.prog.info? e).map (fun i=>(i.zero,i.size,i.bytes))=some (some z,sz,nb)∧z.cells.size=sz∧0 < sz∧nb≤64
section
variable {ops:Array Oper} {rest:List Oper} {o:Oper} {a:Act} {w:World} {Q:Exit→Act→World→Prop}
theorem wp_append_ks {t e:TypeId} {z:Value} {sz nb:Nat} (hE:ElemK9 t e z sz nb) (hgd:o.guard=none) (s y:Operand) (ho:o.op=.call { callee:=.builtin .append,args:=#[s,y],argTypes:=#[t,t] })
    (base n:Nat) (v:Value) (xs:List Value) (hs:a.eval s=v) (hown:w.ownsRow base e sz v n xs) (ad:Addr) (m c:Nat) (news:List Value) (hl:news.length=m * sz) (hy:a.eval y=.slice (some ad) m c)
    (hx:∀ j u,news[j]?=some u→w.cell? (ad.add j)=some u) (h1:∀ u ∈ news,u.oneCell'=true) (hb:n+m≤100000) (hbase:base≤w.heap.size)
    (h:∀ v' w',w'.ownsRow base e sz v' (n+m) (xs ++ news)→w.grownBy w' v.ownBlock→Below base w w'→wpList Tryz.prog ops Q rest (a.put o.dst v') w'):wpList Tryz.prog ops Q (o::rest) a w:=by
  obtain ⟨hu,hi,hz,hp,hnb⟩:=hE
  obtain ⟨i0,hi0,hz0,hz1,hz2⟩:=info_parts hi
  obtain ⟨v',w',hrun,h2,h3,_⟩:=run_append_own (P:=Tryz.prog) w base t o.type e i0 z sz nb hu hi0 hz0 hz1 hz2 hz hp v n xs hown ad m c news hl hx h1
      (by unfold maxLen; omega) (by have:(n+m) * nb≤100001 * 64:=Nat.mul_le_mul (by omega) hnb
                                    omega) hbase
  refine wpList_plain hgd fun K hK=>?_
  unfold Oper.wp
  simp [execOp,ho,resolve,invoke,builtin,hs,hy,hrun,Result.andThen]
  exact hK _ _ (h v' w' h2 h3 ((Below.refl base w).grown h3 hbase (fun k hk=>(hown.lt k hk).1)))
end
section
variable {ops:Array Oper} {o:Oper} {a:Act} {w:World} {K:Act→World→Prop} {Q:Exit→Act→World→Prop} {E:Prop}
theorem step_append_ks {t e:TypeId} {z:Value} {sz nb:Nat} (hE:ElemK9 t e z sz nb) (hgd:o.guard=none) (s y:Operand) (ho:o.op=Op.call { callee:=Callee.builtin Builtin.append,args:=#[s,y],argTypes:=#[t,t] })
    (base n:Nat) (v:Value) (xs:List Value) (hs:a.eval s=v) (hown:w.ownsRow base e sz v n xs) (ad:Addr) (m c:Nat) (news:List Value) (hl:news.length=m * sz) (hy:a.eval y=.slice (some ad) m c)
    (hx:∀ j u,news[j]?=some u→w.cell? (ad.add j)=some u) (h1:∀ u ∈ news,u.oneCell'=true) (hb:n+m≤100000) (hbase:base≤w.heap.size)
    (hK:∀ v' w',w'.ownsRow base e sz v' (n+m) (xs ++ news)→w.grownBy w' v.ownBlock→Below base w w'→K (a.put o.dst v') w') :
    if Region.wanted o (yielded ops a.tmps)=true then Oper.wp Tryz.prog o a w K Q else E:=by
  have hw:Region.wanted o (yielded ops a.tmps)=true:=by simp [Region.wanted,hgd]
  rw [if_pos hw]
  obtain ⟨hu,hi,hz,hp,hnb⟩:=hE
  obtain ⟨i0,hi0,hz0,hz1,hz2⟩:=info_parts hi
  obtain ⟨v',w',hrun,h2,h3,_⟩:=run_append_own (P:=Tryz.prog) w base t o.type e i0 z sz nb hu hi0 hz0 hz1 hz2 hz hp v n xs hown ad m c news hl hx h1
      (by unfold maxLen; omega) (by have:(n+m) * nb≤100001 * 64:=Nat.mul_le_mul (by omega) hnb
                                    omega) hbase
  unfold Oper.wp
  simp [execOp,ho,resolve,invoke,builtin,hs,hy,hrun,Result.andThen]
  exact hK _ _ h2 h3 ((Below.refl base w).grown h3 hbase (fun k hk=>(hown.lt k hk).1))
end
theorem elemPlace:ElemK9 208 218 (.agg #[.int .i64 0,.int .i64 0,.pointer none]) 3 24:=⟨Tryz.underlying208,by kernel_rfl,rfl,by decide,by decide⟩
theorem news_made (w:World) (L:List Value) (T:TypeId):∀ (j:Nat) (u:Value),L[j]?=some u→(w.alloc (.cells L.toArray T)).cell? ((⟨w.heap.size,0,none⟩:Addr).add j)=some u:=by
  intro j u hj
  rw [Go.WideShapes.add_plain,Nat.zero_add,World.cell?_alloc_new]
  simpa using hj
theorem owns_drew {w:World} {base n sz:Nat} {e:TypeId} {v:Value} {xs:List Value} (h:w.ownsRow base e sz v n xs):w.drew.ownsRow base e sz v n xs:=h
set_option maxRecDepth 100000 in
set_option maxHeartbeats 800000 in
theorem head9_any (g:Nat) (w:World):Calls Tryz.prog 145 #[.pointer (some ⟨g,0,none⟩)] w fun e w'=>∃ v,e=.returned v∧Places w' w.heap.size g v headPs9∧Below w.heap.size w w':=by
  go_enter Tryz.func145,Tryz.ntmps145
  go_wp2_with fail
  refine wp_region_still_tail 16 (by kernel_rfl) (by kernel_rfl) ?_
  simp only [List.take_succ_cons,List.take_zero,List.drop_succ_cons,List.drop_zero]
  try rw [drew_of9]
  iterate 16 still_step
  refine wpStill_nil ?_
  go_wp2_with fail
  go_ret
  exact ⟨_,rfl,World.ownsRow_lit (base:=w.heap.size) (e:=218) (size:=3) w (placesV g headPs9).toArray 4 (Nat.le_refl _) (by decide) rfl,((Below.refl _ _).alloc (Nat.le_refl _) _).drew⟩
end Go.Proofs.YtcefmpnijjcekaaGreatDoor
namespace Go.Proofs.YtcefmpnijjcekaaGreatDoor
open Go.RowKit
theorem owns_nil9 (w:World) (base:Nat) (e:TypeId) (sz:Nat):w.ownsRow base e sz (.slice none 0 0) 0 []:=⟨by simp,Or.inl ⟨rfl,rfl⟩⟩
theorem ptrs_grown {w w1:World} {b g base n:Nat} {v:Value} {xs:List Value} {o:Obj} (h:PtrsAre w b g) (hb:b < base) (ho:w.ownsRow base 218 3 v n xs) (hg:(w.alloc o).grownBy w1 v.ownBlock):PtrsAre w1 b g:=fun j hj=>
  hg.cell (cell_later ((Below.refl _ _).alloc (Nat.le_refl _) _) (h j hj)) (fun e=>by have:=(ho.lt b e.symm).1;omega)
theorem owns_mono {w:World} {base base' n sz:Nat} {e:TypeId} {v:Value} {xs:List Value} (h:w.ownsRow base' e sz v n xs) (hb:base≤base'):w.ownsRow base e sz v n xs:=by
  refine ⟨h.1,?_⟩
  rcases h.2 with h2 | ⟨g,cap,cur,hv,hg,rest⟩
  · exact Or.inl h2
  · exact Or.inr ⟨g,cap,cur,hv,Nat.le_trans hb hg,rest⟩
set_option maxRecDepth 100000 in
set_option maxHeartbeats 6400000 in
theorem bodyOld_any (g:Nat) (w:World) (hf:w.cell? ⟨g,1,none⟩=some (.int .i64 1)):Calls Tryz.prog 146 #[.pointer (some ⟨g,0,none⟩)] w fun e w'=>∃ v,e=.returned v∧Places w' w.heap.size g v oldPs∧Below w.heap.size w w':=by
  go_enter Tryz.func146,Tryz.ntmps146
  go_wp2_with (go_at_call 191;refine (pointers_any _ _).mono ?_;rintro e w2 ⟨rfl,hp2,hb2⟩;have B2:=Lib.hid hb2;have P2:=Lib.hid hp2;clear hp2 hb2)
  go_loopw [3,21] (fun lv iv wr=>∃ i:Int,iv=.int .i64 i∧(0≤i∧i≤6)∧Hid (wr.ownsRow (w.heap.size+1) 218 3 lv i.toNat (placesV g (oldPs.take i.toNat)))∧Hid (Below w.heap.size w wr)∧Hid (PtrsAre wr w.heap.size g)) (fun _ iv _=>6 - (intOf iv).toNat)
  case atStart=>exact ⟨0,rfl,by decide,Lib.hid (owns_nil9 _ _ _ _),B2,P2⟩
  case round=>
    obtain ⟨i,rfl,hi,HR,HB,HP⟩:=hrel
    by_cases hlt:i < 6
    · have HZ:Hid (w.heap.size+1≤wr.heap.size+1):=Lib.hid (by have:=HB.out.size;omega)
      obtain rfl | rfl | rfl | rfl | rfl | rfl:i=0∨i=1∨i=2∨i=3∨i=4∨i=5:=by omega
      · have c1:=HP.out 0 (by decide)
        go_wp2_with (at_builtin;refine wp_append_ks elemPlace rfl (.tmp 26) (.tmp 32) rfl (w.heap.size+1) 0 _ _ rfl (HR.out.alloc _) ⟨wr.heap.size,0,none⟩ 1 1 (placeV g (6,2,4)) rfl rfl (news_made wr (placeV g (6,2,4)) _) (placesV_one g [(6,2,4)]) (by decide) (by simpa using HZ.out) ?_;intro v1 w1 hown1 hg1 hb1;have HO1:=Lib.hid hown1;have HG1:=Lib.hid hg1;have HB1:=Lib.hid ((HB.out.alloc HB.out.size _).trans (hb1.mono (Nat.le_succ _)));clear hown1 hg1 hb1)
        go_roundw
        case rel=>exact ⟨1,by go_num,by decide,HO1,HB1,Lib.hid (ptrs_grown HP.out (Nat.lt_succ_self _) HR.out HG1.out)⟩
        case measure=>simp [intOf]
      · have c1:=HP.out 1 (by decide)
        go_wp2_with (at_builtin;refine wp_append_ks elemPlace rfl (.tmp 26) (.tmp 32) rfl (w.heap.size+1) 1 _ _ rfl (HR.out.alloc _) ⟨wr.heap.size,0,none⟩ 1 1 (placeV g (8,2,5)) rfl rfl (news_made wr (placeV g (8,2,5)) _) (placesV_one g [(8,2,5)]) (by decide) (by simpa using HZ.out) ?_;intro v1 w1 hown1 hg1 hb1;have HO1:=Lib.hid hown1;have HG1:=Lib.hid hg1;have HB1:=Lib.hid ((HB.out.alloc HB.out.size _).trans (hb1.mono (Nat.le_succ _)));clear hown1 hg1 hb1)
        go_roundw
        case rel=>exact ⟨2,by go_num,by decide,HO1,HB1,Lib.hid (ptrs_grown HP.out (Nat.lt_succ_self _) HR.out HG1.out)⟩
        case measure=>simp [intOf]
      · have c1:=HP.out 2 (by decide)
        go_wp2_with (at_builtin;refine wp_append_ks elemPlace rfl (.tmp 26) (.tmp 32) rfl (w.heap.size+1) 2 _ _ rfl (HR.out.alloc _) ⟨wr.heap.size,0,none⟩ 1 1 (placeV g (10,2,6)) rfl rfl (news_made wr (placeV g (10,2,6)) _) (placesV_one g [(10,2,6)]) (by decide) (by simpa using HZ.out) ?_;intro v1 w1 hown1 hg1 hb1;have HO1:=Lib.hid hown1;have HG1:=Lib.hid hg1;have HB1:=Lib.hid ((HB.out.alloc HB.out.size _).trans (hb1.mono (Nat.le_succ _)));clear hown1 hg1 hb1)
        go_roundw
        case rel=>exact ⟨3,by go_num,by decide,HO1,HB1,Lib.hid (ptrs_grown HP.out (Nat.lt_succ_self _) HR.out HG1.out)⟩
        case measure=>simp [intOf]
      · have c1:=HP.out 3 (by decide)
        go_wp2_with (at_builtin;refine wp_append_ks elemPlace rfl (.tmp 26) (.tmp 32) rfl (w.heap.size+1) 3 _ _ rfl (HR.out.alloc _) ⟨wr.heap.size,0,none⟩ 1 1 (placeV g (12,2,7)) rfl rfl (news_made wr (placeV g (12,2,7)) _) (placesV_one g [(12,2,7)]) (by decide) (by simpa using HZ.out) ?_;intro v1 w1 hown1 hg1 hb1;have HO1:=Lib.hid hown1;have HG1:=Lib.hid hg1;have HB1:=Lib.hid ((HB.out.alloc HB.out.size _).trans (hb1.mono (Nat.le_succ _)));clear hown1 hg1 hb1)
        go_roundw
        case rel=>exact ⟨4,by go_num,by decide,HO1,HB1,Lib.hid (ptrs_grown HP.out (Nat.lt_succ_self _) HR.out HG1.out)⟩
        case measure=>simp [intOf]
      · have c1:=HP.out 4 (by decide)
        go_wp2_with (at_builtin;refine wp_append_ks elemPlace rfl (.tmp 26) (.tmp 32) rfl (w.heap.size+1) 4 _ _ rfl (HR.out.alloc _) ⟨wr.heap.size,0,none⟩ 1 1 (placeV g (14,2,8)) rfl rfl (news_made wr (placeV g (14,2,8)) _) (placesV_one g [(14,2,8)]) (by decide) (by simpa using HZ.out) ?_;intro v1 w1 hown1 hg1 hb1;have HO1:=Lib.hid hown1;have HG1:=Lib.hid hg1;have HB1:=Lib.hid ((HB.out.alloc HB.out.size _).trans (hb1.mono (Nat.le_succ _)));clear hown1 hg1 hb1)
        go_roundw
        case rel=>exact ⟨5,by go_num,by decide,HO1,HB1,Lib.hid (ptrs_grown HP.out (Nat.lt_succ_self _) HR.out HG1.out)⟩
        case measure=>simp [intOf]
      · have c1:=HP.out 5 (by decide)
        go_wp2_with (at_builtin;refine wp_append_ks elemPlace rfl (.tmp 26) (.tmp 32) rfl (w.heap.size+1) 5 _ _ rfl (HR.out.alloc _) ⟨wr.heap.size,0,none⟩ 1 1 (placeV g (16,2,9)) rfl rfl (news_made wr (placeV g (16,2,9)) _) (placesV_one g [(16,2,9)]) (by decide) (by simpa using HZ.out) ?_;intro v1 w1 hown1 hg1 hb1;have HO1:=Lib.hid hown1;have HG1:=Lib.hid hg1;have HB1:=Lib.hid ((HB.out.alloc HB.out.size _).trans (hb1.mono (Nat.le_succ _)));clear hown1 hg1 hb1)
        go_roundw
        case rel=>exact ⟨6,by go_num,by decide,HO1,HB1,Lib.hid (ptrs_grown HP.out (Nat.lt_succ_self _) HR.out HG1.out)⟩
        case measure=>simp [intOf]
    · have hin:i=6:=by omega
      subst hin
      go_wp2_with fail
      go_ret
      exact ⟨_,rfl,owns_mono HR.out (Nat.le_succ _),HB.out⟩
end Go.Proofs.YtcefmpnijjcekaaGreatDoor
namespace Go.Proofs.YtcefmpnijjcekaaGreatDoor
open Go.RowKit
set_option maxRecDepth 100000 in
set_option maxHeartbeats 6400000 in
theorem bodyNew_any (g:Nat) (w:World) (hf:w.cell? ⟨g,1,none⟩=some (.int .i64 2)):Calls Tryz.prog 146 #[.pointer (some ⟨g,0,none⟩)] w fun e w'=>∃ v,e=.returned v∧Places w' w.heap.size g v newPs∧Below w.heap.size w w':=by
  go_enter Tryz.func146,Tryz.ntmps146
  go_wp2_with fail
  go_loopw [3,37] (fun lv iv wr=>∃ i:Int,iv=.int .i64 i∧(0≤i∧i≤3)∧Hid (wr.ownsRow w.heap.size 218 3 lv (3 * i.toNat) (placesV g (slotPs.take (3 * i.toNat))))∧Hid (Below w.heap.size w wr)) (fun _ iv _=>3 - (intOf iv).toNat)
  case atStart=>exact ⟨0,rfl,by decide,Lib.hid (owns_nil9 _ _ _ _),Lib.hid (Below.refl _ _)⟩
  case round=>
    obtain ⟨i,rfl,hi,HR,HB⟩:=hrel
    by_cases hlt:i < 3
    · have HZ:Hid (w.heap.size≤wr.heap.size+1):=Lib.hid (by have:=HB.out.size;omega)
      obtain rfl | rfl | rfl:i=0∨i=1∨i=2:=by omega
      · go_wp2_with fail
        go_region_law (refine step_append_ks (o:=⟨some 67,_,_,_,_,_⟩) elemPlace rfl (.tmp 48) (.tmp 66) rfl w.heap.size 0 _ _ rfl (owns_drew (HR.out.alloc _)) ⟨wr.heap.size,0,none⟩ 3 3 (placesV g [(6,1,12),(7,2,13),(9,1,14)]) rfl rfl (news_made wr (placesV g [(6,1,12),(7,2,13),(9,1,14)]) _) (placesV_one g [(6,1,12),(7,2,13),(9,1,14)]) (by decide) (by simpa using HZ.out) ?_;intro v1 w1 hown1 hg1 hb1;have HO1:=Lib.hid hown1;have HB1:=Lib.hid ((HB.out.alloc HB.out.size _).drew.trans hb1);clear hown1 hg1 hb1)
        go_wp2_with fail
        go_roundw
        case rel=>exact ⟨1,by go_num,by decide,HO1,HB1⟩
        case measure=>simp [intOf]
      · go_wp2_with fail
        go_region_law (refine step_append_ks (o:=⟨some 67,_,_,_,_,_⟩) elemPlace rfl (.tmp 48) (.tmp 66) rfl w.heap.size 3 _ _ rfl (owns_drew (HR.out.alloc _)) ⟨wr.heap.size,0,none⟩ 3 3 (placesV g [(10,1,15),(11,2,16),(13,1,17)]) rfl rfl (news_made wr (placesV g [(10,1,15),(11,2,16),(13,1,17)]) _) (placesV_one g [(10,1,15),(11,2,16),(13,1,17)]) (by decide) (by simpa using HZ.out) ?_;intro v1 w1 hown1 hg1 hb1;have HO1:=Lib.hid hown1;have HB1:=Lib.hid ((HB.out.alloc HB.out.size _).drew.trans hb1);clear hown1 hg1 hb1)
        go_wp2_with fail
        go_roundw
        case rel=>exact ⟨2,by go_num,by decide,HO1,HB1⟩
        case measure=>simp [intOf]
      · go_wp2_with fail
        go_region_law (refine step_append_ks (o:=⟨some 67,_,_,_,_,_⟩) elemPlace rfl (.tmp 48) (.tmp 66) rfl w.heap.size 6 _ _ rfl (owns_drew (HR.out.alloc _)) ⟨wr.heap.size,0,none⟩ 3 3 (placesV g [(14,1,18),(15,2,19),(17,1,20)]) rfl rfl (news_made wr (placesV g [(14,1,18),(15,2,19),(17,1,20)]) _) (placesV_one g [(14,1,18),(15,2,19),(17,1,20)]) (by decide) (by simpa using HZ.out) ?_;intro v1 w1 hown1 hg1 hb1;have HO1:=Lib.hid hown1;have HB1:=Lib.hid ((HB.out.alloc HB.out.size _).drew.trans hb1);clear hown1 hg1 hb1)
        go_wp2_with fail
        go_roundw
        case rel=>exact ⟨3,by go_num,by decide,HO1,HB1⟩
        case measure=>simp [intOf]
    · have hin:i=3:=by omega
      subst hin
      have HZ:Hid (w.heap.size≤wr.heap.size+1):=Lib.hid (by have:=HB.out.size;omega)
      go_wp2_with (at_builtin;refine wp_append_ks elemPlace rfl (.tmp 69) (.tmp 75) rfl w.heap.size 9 _ _ rfl (HR.out.alloc _) ⟨wr.heap.size,0,none⟩ 1 1 (placeV g (18,2,11)) rfl rfl (news_made wr (placeV g (18,2,11)) _) (placesV_one g [(18,2,11)]) (by decide) (by simpa using HZ.out) ?_;intro v1 w1 hown1 hg1 hb1;have HO1:=Lib.hid hown1;have HB1:=Lib.hid ((HB.out.alloc HB.out.size _).trans hb1);clear hown1 hg1 hb1)
      go_ret
      exact ⟨_,rfl,HO1.out,HB1.out⟩
theorem bodyNone_any (g:Nat) (f:Int) (w:World) (hf:w.cell? ⟨g,1,none⟩=some (.int .i64 f)) (h1:f≠1) (h2:f≠2):Calls Tryz.prog 146 #[.pointer (some ⟨g,0,none⟩)] w fun e w'=>e=.returned (.slice none 0 0)∧w=w':=by
  have e1:(f == 1)=false:=by simp [h1]
  have e2:(f == 2)=false:=by simp [h2]
  have e3:decide (f=1)=false:=by simp [h1]
  have e4:decide (f=2)=false:=by simp [h2]
  clear h1 h2
  go_enter Tryz.func146,Tryz.ntmps146
  go_wp2_with fail
  go_ret
  exact ⟨rfl,rfl⟩
theorem body9_any (g:Nat) (f:Int) (w:World) (hf:w.cell? ⟨g,1,none⟩=some (.int .i64 f)):Calls Tryz.prog 146 #[.pointer (some ⟨g,0,none⟩)] w fun e w'=>∃ v,e=.returned v∧Places w' w.heap.size g v (bodyPs f)∧(bodyPs f=[]→v=.slice none 0 0)∧Below w.heap.size w w':=by
  by_cases h1:f=1
  · subst h1
    exact (bodyOld_any g w hf).mono (fun e w' ⟨v,h1,h2,h3⟩=>⟨v,h1,h2,(fun h=>absurd h (by decide)),h3⟩)
  · by_cases h2:f=2
    · subst h2
      exact (bodyNew_any g w hf).mono (fun e w' ⟨v,h1,h2,h3⟩=>⟨v,h1,h2,(fun h=>absurd h (by decide)),h3⟩)
    · unfold bodyPs
      rw [if_neg h1,if_neg h2]
      exact (bodyNone_any g f w hf h1 h2).mono (fun e w' ⟨h1,h2⟩=>⟨_,h1,owns_nil9 _ _ _ _,fun _=>rfl,by rw [← h2];exact Below.refl _ _⟩)
end Go.Proofs.YtcefmpnijjcekaaGreatDoor
