/- Said here: what is told of a volume, and of its log, as blocks, in plain words; what the landed calls of package super are to answer (SupOk); plain facts on these. No conditions but those that each theorem names. Proved here: plain facts on blocks of Supers and Heads: what was made is read as it was; no block is both; a block of which one byte ahead of the sum is another .. -/
import Derived.Test.YtcefmpnijjcekaaGreatDoorTk1
import Derived.Test.YtcefmpnijjcekaaGreatDoorTk0
import Derived.BigRegion
import Derived.StillTailTactics
import Derived.Deep.RegionHeld
set_option linter.unusedVariables false
set_option linter.unusedSimpArgs false
namespace Go.Proofs.YtcefmpnijjcekaaGreatDoor
open Go.RowKit
def dryd:List Int:=[68,82,89,68]
def headT:List Int:=[72,69,65,68]
structure PSup where
  a:Int
  b:Int
  c:Int
  d:Int
  e:Int
  deriving DecidableEq
structure PHead where
  a:Int
  b:Int
  deriving DecidableEq
def PSup.sound (s:PSup):Bool:=decide (64≤s.a∧s.a≤480∧1≤s.b∧s.b≤3∧0≤s.c∧s.c≤3∧0≤s.d∧s.d≤32∧0≤s.e∧s.e≤480)
def PHead.sound (h:PHead):Bool:=decide (0≤h.a∧h.a≤39∧1≤h.b∧h.b≤1073741824)
def supB (s:PSup):List Int:=dryd ++ leB s.a 2 ++ leB s.b 1 ++ leB s.c 1 ++ leB s.d 2 ++ leB s.e 2
def headB (h:PHead):List Int:=headT ++ leB h.a 4 ++ leB h.b 4
def supBlock (s:PSup):List Int:=sealOf sumS (supB s)
def headBlock (h:PHead):List Int:=sealOf sumS (headB h)
def supErr (s:PSup):Int:=if s.sound=true then 0 else 2
def supOut (s:PSup):List Int:=if s.sound=true then supBlock s else []
def headErr (h:PHead):Int:=if h.sound=true then 0 else 2
def headOut (h:PHead):List Int:=if h.sound=true then headBlock h else []
def noSup:PSup:=⟨0,0,0,0,0⟩
def noHead:PHead:=⟨0,0⟩
def readSup (zs:List Int):PSup:=⟨leN zs 4 2,zs.getD 6 0,zs.getD 7 0,zs.getD 8 0,leN zs 10 2⟩
def readHead (zs:List Int):PHead:=⟨zs.getD 4 0,leN zs 8 4⟩
def isSup (zs:List Int):Bool:=decide (zs.length=64)&&((readSup zs).sound&&decide (supBlock (readSup zs)=zs))
def isHead (zs:List Int):Bool:=decide (zs.length=64)&&((readHead zs).sound&&decide (headBlock (readHead zs)=zs))
def getSup (zs:List Int):PSup:=if isSup zs=true then readSup zs else noSup
def getHead (zs:List Int):PHead:=if isHead zs=true then readHead zs else noHead
def getSupErr (zs:List Int):Int:=if isSup zs=true then 0 else 2
def getHeadErr (zs:List Int):Int:=if isHead zs=true then 0 else 2
def PSup.val (s:PSup):Value:=.agg #[.int .i64 s.a,.int .i64 s.b,.int .i64 s.c,.int .i64 s.d,.int .i64 s.e]
def PHead.val (h:PHead):Value:=.agg #[.int .i64 h.a,.int .i64 h.b]
def i64w (x:Int):Prop:=-9223372036854775808≤x∧x≤9223372036854775807
def PSup.in64 (s:PSup):Prop:=i64w s.a∧i64w s.b∧i64w s.c∧i64w s.d∧i64w s.e
def PHead.in64 (h:PHead):Prop:=i64w h.a∧i64w h.b
/-! ### Plain facts -/
theorem supB_length (s:PSup):(supB s).length=12:=by
  unfold supB
  simp only [List.length_append,leB_length]
  rfl
theorem headB_length (h:PHead):(headB h).length=12:=by
  unfold headB
  simp only [List.length_append,leB_length]
  rfl
theorem supB_bytes (s:PSup):∀ z ∈ supB s,0≤z∧z≤255:=by
  intro z hz
  unfold supB at hz
  simp only [List.mem_append] at hz
  rcases hz with ((((h | h) | h) | h) | h) | h
  · unfold dryd at h;simp at h;omega
  all_goals exact leB_bytes _ _ z h
theorem headB_bytes (h:PHead):∀ z ∈ headB h,0≤z∧z≤255:=by
  intro z hz
  unfold headB at hz
  simp only [List.mem_append] at hz
  rcases hz with (h' | h') | h'
  · unfold headT at h';simp at h';omega
  all_goals exact leB_bytes _ _ z h'
end Go.Proofs.YtcefmpnijjcekaaGreatDoor
namespace Go.Proofs.YtcefmpnijjcekaaGreatDoor
open Go.RowKit
/-! ### What calls answer of such blocks -/
theorem sup_of_sealed {zs:List Int} (s:PSup) (h64:zs.length=64) (h:∀ k,k < 60→zs.getD k 0=(supB s).getD k 0):sealOf sumS zs=supBlock s:=
  sealed_of (by rw [supB_length];decide) h64 h
theorem head_of_sealed {zs:List Int} (s:PHead) (h64:zs.length=64) (h:∀ k,k < 60→zs.getD k 0=(headB s).getD k 0):sealOf sumS zs=headBlock s:=
  sealed_of (by rw [headB_length];decide) h64 h
end Go.Proofs.YtcefmpnijjcekaaGreatDoor
namespace Go.Proofs.YtcefmpnijjcekaaGreatDoor
theorem getD_put (zs:List Int) (p:Nat) (n:Int) (k:Nat) (h:p+k≤zs.length) (i:Nat) :
    (putK zs p n k).1.getD i 0=if p≤i∧i < p+k then (putK [] 0 n (i - p)).2%256 else zs.getD i 0:=by
  induction k with
  | zero=>rw [if_neg (by omega)];rfl
  | succ k ih=>
    have ih:=ih (by omega)
    show ((putK zs p n k).1.set (p+k) ((putK zs p n k).2%256)).getD i 0=_
    rw [getD_set _ _ _ _ (by rw [putK_length];omega)]
    by_cases h1:i=p+k
    · subst h1
      rw [if_pos rfl,if_pos (by omega),putK_rest zs [] p 0 n k]
      have e:p+k - p=k:=by omega
      rw [e]
    · rw [if_neg h1,ih]
      by_cases h2:p≤i∧i < p+k
      · rw [if_pos h2,if_pos (by omega)]
      · rw [if_neg h2,if_neg (by omega)]
theorem leN_set (L:List Int) (p j k:Nat) (y:Int) (hj:p+k≤j) (hl:j < L.length):leN (L.set j y) p k=leN L p k:=by
  induction k with
  | zero=>rfl
  | succ k ih=>
    show leN (L.set j y) p k+(L.set j y).getD (p+k) 0 * 256^k=leN L p k+L.getD (p+k) 0 * 256^k
    rw [ih (by omega),getD_set _ _ _ _ hl,if_neg (by omega)]
theorem le_put (zs:List Int) (p:Nat) (n:Int) (k:Nat) (h:p+k≤zs.length):leN (putK zs p n k).1 p k+256^k * (putK zs p n k).2=n:=by
  induction k with
  | zero=>show 0+1 * n=n;omega
  | succ k ih=>
    have ih:=ih (by omega)
    show leN ((putK zs p n k).1.set (p+k) ((putK zs p n k).2%256)) p k+((putK zs p n k).1.set (p+k) ((putK zs p n k).2%256)).getD (p+k) 0 * 256^k+256^(k+1) * ((putK zs p n k).2 / 256)=n
    rw [leN_set _ _ _ _ _ (by omega) (by rw [putK_length];omega),getD_set _ _ _ _ (by rw [putK_length];omega),if_pos rfl,Int.pow_succ]
    have e:=Int.emod_add_mul_ediv (putK zs p n k).2 256
    generalize (putK zs p n k).2=R at *
    generalize leN (putK zs p n k).1 p k=A at *
    rw [← ih]
    have e2:R%256 * 256^k+256^k * 256 * (R / 256)=256^k * (R%256+256 * (R / 256)):=by grind
    rw [Int.add_assoc,e2,e]
theorem setErr_ok {len:Nat} {p size n:Int} (h:setErr len p size n=0):fErr len p size=0∧0≤n∧(putK [] 0 n size.toNat).2=0:=by
  unfold setErr at h
  by_cases h1:fErr len p size=0
  · rw [if_neg (by simp [h1])] at h
    by_cases h2:n < 0∨0 < (putK [] 0 n size.toNat).2
    · rw [if_pos h2] at h;exact absurd h (by decide)
    · have h3:0≤n:=by omega
      have h4:=(putK_nonneg [] 0 h3 size.toNat).1
      exact ⟨h1,h3,by omega⟩
  · rw [if_pos h1] at h;exact absurd h h1
theorem setOut_length {zs:List Int} {p size n:Int} (h:setErr zs.length p size n=0):(setOut zs p size n).length=64:=by
  rw [setOut_ok h,putK_length]
  exact (fErr_ok (setErr_ok h).1).1
theorem get_set {zs:List Int} {p size n:Int} (h:setErr zs.length p size n=0):getOut (setOut zs p size n) p size=n:=by
  obtain ⟨h1,h2,h3⟩:=setErr_ok h
  have ho:=fErr_ok h1
  unfold getOut
  rw [setOut_length h,show fErr 64 p size=0 from by rw [← ho.1];exact h1,if_pos rfl,setOut_ok h]
  have e:=le_put zs p.toNat n size.toNat (by omega)
  rw [putK_rest zs [] p.toNat 0 n size.toNat,h3] at e
  omega
theorem set_other {zs:List Int} {p size n:Int} (h:setErr zs.length p size n=0) {i:Nat} (hi:¬ (p≤i∧(i:Int) < p+size)):(setOut zs p size n).getD i 0=zs.getD i 0:=by
  have ho:=fErr_ok (setErr_ok h).1
  rw [setOut_ok h,getD_put _ _ _ _ (by omega),if_neg (by omega)]
end Go.Proofs.YtcefmpnijjcekaaGreatDoor
namespace Go.Proofs.YtcefmpnijjcekaaGreatDoor
open Go.RowKit
theorem putK_over (zs:List Int) (p:Nat) (n:Int):∀ k:Nat,(putK zs p n k).2=n / 256^k
  | 0=>by
    show n=n / 1
    omega
  | k+1=>by
    show (putK zs p n k).2 / 256=_
    rw [putK_over zs p n k,Int.pow_succ,← Int.ediv_ediv_of_nonneg (by have:=pow256_pos k;omega)]
theorem setErr_none {p size:Nat} {n:Int} (h1:1≤size) (h2:size≤4) (h3:p+size≤60) (h4:0≤n) (h5:n < 256^size):setErr 64 p size n=0:=by
  have hf:fErr 64 p size=0:=by
    unfold fErr
    rw [if_pos rfl,if_neg (by omega)]
  unfold setErr
  rw [if_neg (by simp [hf]),if_neg]
  rintro (h | h)
  · omega
  · rw [putK_over,Int.toNat_natCast,Int.ediv_eq_zero_of_lt h4 h5] at h
    omega
theorem put_at {zs:List Int} {p size:Nat} {n:Int} (h:setErr zs.length p size n=0) {i:Nat} (hi:p≤i∧i < p+size):(setOut zs p size n).getD i 0=n / 256^(i - p)%256:=by
  have ho:=fErr_ok (setErr_ok h).1
  rw [setOut_ok h,Int.toNat_natCast,Int.toNat_natCast,getD_put _ _ _ _ (by omega),if_pos hi,putK_over]
theorem put_off {zs:List Int} {p size:Nat} {n:Int} (h:setErr zs.length p size n=0) {i:Nat} (hi:¬ (p≤i∧i < p+size)):(setOut zs p size n).getD i 0=zs.getD i 0:=set_other h (by omega)
def zeroes64:List Int:=List.replicate 64 0
def begun4 (t:List Int):List Int:=textOut zeroes64 0 t
theorem begun_dryd:begun4 dryd=dryd ++ List.replicate 60 0:=by decide
theorem begun_head:begun4 headT=headT ++ List.replicate 60 0:=by decide
def madeSup (s:PSup):List Int:=setOut (setOut (setOut (setOut (setOut (begun4 dryd) (4:Nat) (2:Nat) s.a) (6:Nat) (1:Nat) s.b) (7:Nat) (1:Nat) s.c) (8:Nat) (1:Nat) s.d) (10:Nat) (2:Nat) s.e
def madeHead (s:PHead):List Int:=setOut (setOut (begun4 headT) (4:Nat) (1:Nat) s.a) (8:Nat) (4:Nat) s.b
theorem made_sup {s:PSup} (h:s.sound=true):(madeSup s).length=64∧sealOf sumS (madeSup s)=supBlock s:=by
  obtain ⟨a,b,c,d,e⟩:=s
  have h':64≤a∧a≤480∧1≤b∧b≤3∧0≤c∧c≤3∧0≤d∧d≤32∧0≤e∧e≤480:=of_decide_eq_true h
  have l0:(begun4 dryd).length=64:=by decide
  have p2:(256:Int)^2=65536:=by decide
  have p1:(256:Int)^1=256:=by decide
  have p0:(256:Int)^0=1:=by decide
  have e1:setErr (begun4 dryd).length (4:Nat) (2:Nat) a=0:=by rw [l0];exact setErr_none (by decide) (by decide) (by decide) (by omega) (by omega)
  have l1:=setOut_length e1
  have e2:setErr (setOut (begun4 dryd) (4:Nat) (2:Nat) a).length (6:Nat) (1:Nat) b=0:=by rw [l1];exact setErr_none (by decide) (by decide) (by decide) (by omega) (by omega)
  have l2:=setOut_length e2
  have e3:setErr (setOut (setOut (begun4 dryd) (4:Nat) (2:Nat) a) (6:Nat) (1:Nat) b).length (7:Nat) (1:Nat) c=0:=by rw [l2];exact setErr_none (by decide) (by decide) (by decide) (by omega) (by omega)
  have l3:=setOut_length e3
  have e4:setErr (setOut (setOut (setOut (begun4 dryd) (4:Nat) (2:Nat) a) (6:Nat) (1:Nat) b) (7:Nat) (1:Nat) c).length (8:Nat) (1:Nat) d=0:=by rw [l3];exact setErr_none (by decide) (by decide) (by decide) (by omega) (by omega)
  have l4:=setOut_length e4
  have e5:setErr (setOut (setOut (setOut (setOut (begun4 dryd) (4:Nat) (2:Nat) a) (6:Nat) (1:Nat) b) (7:Nat) (1:Nat) c) (8:Nat) (1:Nat) d).length (10:Nat) (2:Nat) e=0:=by rw [l4];exact setErr_none (by decide) (by decide) (by decide) (by omega) (by omega)
  refine ⟨setOut_length e5,sup_of_sealed _ (setOut_length e5) (fun k hk=>?_)⟩
  show (setOut (setOut (setOut (setOut (setOut (begun4 dryd) (4:Nat) (2:Nat) a) (6:Nat) (1:Nat) b) (7:Nat) (1:Nat) c) (8:Nat) (1:Nat) d) (10:Nat) (2:Nat) e).getD k 0=_
  by_cases k12:12≤k
  · rw [put_off e5 (by omega),put_off e4 (by omega),put_off e3 (by omega),put_off e2 (by omega),put_off e1 (by omega),begun_dryd]
    have hs:(supB ⟨a,b,c,d,e⟩).getD k 0=0:=by
      rw [List.getD_eq_getElem?_getD,List.getElem?_eq_none (by rw [supB_length];exact k12),Option.getD_none]
    rw [hs,List.getD_eq_getElem?_getD,List.getElem?_append_right (show dryd.length≤k by show 4≤k;omega)]
    rw [List.getElem?_replicate]
    split
    · rfl
    · rfl
  · by_cases k4:k < 4
    · rw [put_off e5 (by omega),put_off e4 (by omega),put_off e3 (by omega),put_off e2 (by omega),put_off e1 (by omega),begun_dryd]
      obtain rfl | rfl | rfl | rfl:k=0∨k=1∨k=2∨k=3:=by omega
      all_goals rfl
    · by_cases k6:k < 6
      · rw [put_off e5 (by omega),put_off e4 (by omega),put_off e3 (by omega),put_off e2 (by omega),put_at e1 (by omega)]
        obtain rfl | rfl:k=4∨k=5:=by omega
        all_goals rfl
      · by_cases k7:k=6
        · subst k7
          rw [put_off e5 (by omega),put_off e4 (by omega),put_off e3 (by omega),put_at e2 (by omega)]
          rfl
        · by_cases k8:k=7
          · subst k8
            rw [put_off e5 (by omega),put_off e4 (by omega),put_at e3 (by omega)]
            rfl
          · by_cases k9:k=8
            · subst k9
              rw [put_off e5 (by omega),put_at e4 (by omega)]
              rfl
            · by_cases k10:k=9
              · subst k10
                rw [put_off e5 (by omega),put_off e4 (by omega),put_off e3 (by omega),put_off e2 (by omega),put_off e1 (by omega),begun_dryd]
                show (0:Int)=d / 256^1%256
                omega
              · rw [put_at e5 (by omega)]
                obtain rfl | rfl:k=10∨k=11:=by omega
                all_goals rfl
theorem made_head {s:PHead} (h:s.sound=true):(madeHead s).length=64∧sealOf sumS (madeHead s)=headBlock s:=by
  obtain ⟨a,b⟩:=s
  have h':0≤a∧a≤39∧1≤b∧b≤1073741824:=of_decide_eq_true h
  have l0:(begun4 headT).length=64:=by decide
  have p4:(256:Int)^4=4294967296:=by decide
  have p1:(256:Int)^1=256:=by decide
  have e1:setErr (begun4 headT).length (4:Nat) (1:Nat) a=0:=by rw [l0];exact setErr_none (by decide) (by decide) (by decide) (by omega) (by omega)
  have l1:=setOut_length e1
  have e2:setErr (setOut (begun4 headT) (4:Nat) (1:Nat) a).length (8:Nat) (4:Nat) b=0:=by rw [l1];exact setErr_none (by decide) (by decide) (by decide) (by omega) (by omega)
  refine ⟨setOut_length e2,head_of_sealed _ (setOut_length e2) (fun k hk=>?_)⟩
  show (setOut (setOut (begun4 headT) (4:Nat) (1:Nat) a) (8:Nat) (4:Nat) b).getD k 0=_
  by_cases k12:12≤k
  · rw [put_off e2 (by omega),put_off e1 (by omega),begun_head]
    have hs:(headB ⟨a,b⟩).getD k 0=0:=by
      rw [List.getD_eq_getElem?_getD,List.getElem?_eq_none (by rw [headB_length];exact k12),Option.getD_none]
    rw [hs,List.getD_eq_getElem?_getD,List.getElem?_append_right (show headT.length≤k by show 4≤k;omega)]
    rw [List.getElem?_replicate]
    split
    · rfl
    · rfl
  · by_cases k4:k < 4
    · rw [put_off e2 (by omega),put_off e1 (by omega),begun_head]
      obtain rfl | rfl | rfl | rfl:k=0∨k=1∨k=2∨k=3:=by omega
      all_goals rfl
    · by_cases k5:k=4
      · subst k5
        rw [put_off e2 (by omega),put_at e1 (by omega)]
        rfl
      · by_cases k8:k < 8
        · rw [put_off e2 (by omega),put_off e1 (by omega),begun_head]
          obtain rfl | rfl | rfl:k=5∨k=6∨k=7:=by omega
          · show (0:Int)=a / 256^1%256
            omega
          · show (0:Int)=a / 256^2%256
            omega
          · show (0:Int)=a / 256^3%256
            omega
        · rw [put_at e2 (by omega)]
          obtain rfl | rfl | rfl | rfl:k=8∨k=9∨k=10∨k=11:=by omega
          all_goals rfl
end Go.Proofs.YtcefmpnijjcekaaGreatDoor
namespace Go.Proofs.YtcefmpnijjcekaaGreatDoor
open Go.RowKit
def placeErr (len:Nat) (p n:Int):Int:=if len=64 then (if p < 0∨60 - p < n then 1 else 0) else 2
set_option maxHeartbeats 400000 in
theorem fPlace_any (ao:Option Addr) (len cap:Nat) (p n:Int) (w:World) (hl:len≤140737488351232) (hp:-9223372036854775808≤p∧p≤9223372036854775807) :
    Calls Tryz.prog 187 #[.slice ao len cap,.int .i64 p,.int .i64 n] w fun e w'=>e=.returned (.int .i64 (placeErr len p n))∧w=w':=by
  unfold placeErr
  by_cases h0:len=64
  · subst h0
    rw [if_pos rfl]
    by_cases h1:p < 0
    · rw [if_pos (Or.inl h1)]
      go_enter Tryz.func187,Tryz.ntmps187
      go_wp2
      go_ret
      exact ⟨rfl,rfl⟩
    · by_cases h2:60 - p < n
      · rw [if_pos (Or.inr h2)]
        go_enter Tryz.func187,Tryz.ntmps187
        go_wp2
        go_ret
        exact ⟨rfl,rfl⟩
      · rw [if_neg (by omega)]
        go_enter Tryz.func187,Tryz.ntmps187
        go_wp2
        go_ret
        exact ⟨rfl,rfl⟩
  · rw [if_neg h0]
    have hne:((len:Int) != 64)=true:=by simp;omega
    go_enter Tryz.func187,Tryz.ntmps187
    go_wp2
    go_ret
    exact ⟨rfl,rfl⟩
theorem fErr_place (len:Nat) (p n:Int):fErr len p n=if placeErr len p n=0 then (if n < 1∨4 < n then 1 else 0) else placeErr len p n:=by
  unfold fErr placeErr
  by_cases hl:len=64
  · rw [if_pos hl,if_pos hl]
    by_cases h2:p < 0∨60 - p < n
    · rw [if_pos h2,if_neg (show ¬ (1:Int)=0 by decide)]
      by_cases h3:n < 1∨4 < n∨p < 0∨60 < p∨60 < p+n
      · rw [if_pos h3]
      · omega
    · rw [if_neg h2,if_pos rfl]
      by_cases h3:n < 1∨4 < n
      · rw [if_pos h3,if_pos (by omega)]
      · rw [if_neg h3,if_neg (by omega)]
  · rw [if_neg hl,if_neg hl,if_neg (by decide)]
end Go.Proofs.YtcefmpnijjcekaaGreatDoor
namespace Go.Proofs.YtcefmpnijjcekaaGreatDoor
open Go.RowKit
set_option maxHeartbeats 400000 in
theorem fNumber_any (ao:Option Addr) (len cap:Nat) (p n:Int) (w:World) (hl:len≤140737488351232) (hp:-9223372036854775808≤p∧p≤9223372036854775807) :
    Calls Tryz.prog 188 #[.slice ao len cap,.int .i64 p,.int .i64 n] w fun e w'=>e=.returned (.int .i64 (fErr len p n))∧w=w':=by
  have c:=fPlace_any ao len cap p n w hl hp
  rw [fErr_place]
  clear hl hp
  by_cases hE:placeErr len p n=0
  · rw [if_pos hE]
    rw [hE] at c
    clear hE
    by_cases h1:n < 1
    · rw [if_pos (Or.inl h1)]
      go_enter Tryz.func188,Tryz.ntmps188
      go_wp2_with (go_at_call 187;refine c.mono ?_;rintro e w' ⟨rfl,rfl⟩)
      go_ret
      exact ⟨rfl,rfl⟩
    · by_cases h2:4 < n
      · rw [if_pos (Or.inr h2)]
        go_enter Tryz.func188,Tryz.ntmps188
        go_wp2_with (go_at_call 187;refine c.mono ?_;rintro e w' ⟨rfl,rfl⟩)
        go_ret
        exact ⟨rfl,rfl⟩
      · rw [if_neg (by omega)]
        go_enter Tryz.func188,Tryz.ntmps188
        go_wp2_with (go_at_call 187;refine c.mono ?_;rintro e w' ⟨rfl,rfl⟩)
        go_ret
        exact ⟨rfl,rfl⟩
  · rw [if_neg hE]
    obtain ⟨E,HE⟩:∃ E,Hid (placeErr len p n=E):=⟨_,Lib.hid rfl⟩
    rw [HE.out] at hE c ⊢
    have hne:(E != 0)=true:=by simp;exact hE
    clear hE
    go_enter Tryz.func188,Tryz.ntmps188
    go_wp2_with (go_at_call 187;refine c.mono ?_;rintro e w' ⟨rfl,rfl⟩)
    go_ret
    exact ⟨rfl,rfl⟩
end Go.Proofs.YtcefmpnijjcekaaGreatDoor
namespace Go.Proofs.YtcefmpnijjcekaaGreatDoor
open Go.RowKit
theorem putK_quot (zs:List Int) (p:Nat) (n:Int) (k:Nat):(putK zs p n k).2=n / 256^k:=by
  induction k with
  | zero=>show n=n / 1;omega
  | succ k ih=>
    show (putK zs p n k).2 / 256=_
    rw [ih,Int.pow_succ,← Int.ediv_ediv_of_nonneg (by have:=pow256_pos k;omega)]
theorem putK_lay (zs:List Int) (p:Nat) (n:Int) (k:Nat):(putK zs p n k).1=lay zs p (leB n k):=by
  induction k with
  | zero=>rfl
  | succ k ih=>
    show (putK zs p n k).1.set (p+k) ((putK zs p n k).2%256)=lay zs p (leB n k ++ [n / 256^k%256])
    rw [lay_snoc,leB_length,ih,putK_quot]
set_option maxHeartbeats 400000 in
theorem fSet_any (ao:Option Addr) (len cap:Nat) (zs:List Int) (p size n:Int) (w:World) (hA:Arg w ao len cap zs) (hp:-9223372036854775808≤p∧p≤9223372036854775807) (hs:-9223372036854775808≤size∧size≤9223372036854775807) (hn:-9223372036854775808≤n∧n≤9223372036854775807) :
    Calls Tryz.prog 138 #[.slice ao len cap,.int .i64 p,.int .i64 size,.int .i64 n] w (Handed w.heap.size w (setOut zs p size n) (setErr len p size n)):=by
  obtain ⟨hB,_,_,hlen⟩:=hA
  have hl:=hB.1
  have cK:=fNumber_any ao len cap p size w hlen hp
  by_cases hE:fErr len p size=0
  · have ho:=fErr_ok hE
    have hlen:len=64:=ho.1
    subst hlen
    obtain ⟨k,hk⟩:∃ k:Nat,size=k:=⟨size.toNat,by omega⟩
    obtain ⟨q,hq⟩:∃ q:Nat,p=q:=⟨p.toNat,by omega⟩
    subst hk
    subst hq
    have e1:Int.toNat (k:Int)=k:=by omega
    have e2:Int.toNat (q:Int)=q:=by omega
    have k1:1≤k:=by omega
    have k4:k≤4:=by omega
    have hq60:q+k≤60:=by omega
    have HO:Hid (setErr 64 q k n=if n < 0∨0 < n / 2^(8 * k) then 7 else 0):=Lib.hid (by
      unfold setErr
      rw [hE,if_neg (by decide),e1,putK_quot,pow_two_bytes])
    have HO2:Hid (setErr 64 q k n=0→setOut zs q k n=lay zs q (leB n k)):=Lib.hid (fun h=>by
      rw [setOut_ok (by rw [hl];exact h),e1,e2,putK_lay])
    have HO3:Hid (setErr 64 q k n≠0→setOut zs q k n=[]):=Lib.hid (fun h=>setOut_err (by rw [hl];exact h))
    rw [hE] at cK
    have HL:=Lib.hid hl
    have HB:=Lib.hid hB
    clear hE ho hB hl hp hs e1 e2 hlen
    by_cases hneg:n < 0
    · have HE7:Hid (setErr 64 q k n=7):=Lib.hid (by rw [HO.out,if_pos (Or.inl hneg)])
      have HE8:Hid (setOut zs q k n=[]):=Lib.hid (HO3.out (by rw [HE7.out];decide))
      go_enter Tryz.func138,Tryz.ntmps138
      go_wp2_with (go_at_call 188;refine cK.mono ?_;rintro e w' ⟨rfl,rfl⟩)
      go_ret2
      exact ⟨.slice none 0 0,by rw [HE7.out];rfl,by rw [HE8.out];exact Fresh.nil _ _,Below.refl _ _⟩
    · have hn0:0≤n:=by omega
      by_cases hbig:0 < n / 2^(8 * k)
      · have HE7:Hid (setErr 64 q k n=7):=Lib.hid (by rw [HO.out,if_pos (Or.inr hbig)])
        have HE8:Hid (setOut zs q k n=[]):=Lib.hid (HO3.out (by rw [HE7.out];decide))
        go_enter Tryz.func138,Tryz.ntmps138
        go_wp2_with (go_at_call 188;refine cK.mono ?_;rintro e w' ⟨rfl,rfl⟩)
        go_ret2
        exact ⟨.slice none 0 0,by rw [HE7.out];rfl,by rw [HE8.out];exact Fresh.nil _ _,Below.refl _ _⟩
      · have HE7:Hid (setErr 64 q k n=0):=Lib.hid (by rw [HO.out,if_neg (by omega)])
        have HE8:Hid (setOut zs q k n=lay zs q (bytesOf (str (leB n k)))):=Lib.hid (by rw [HO2.out HE7.out,bytesOf_str (leB_bytes n k)])
        have cB:=fBytes_any k n w k4
        have HC:Hid (∀ w2,Below w.heap.size w w2→Calls Tryz.prog 132 #[.slice ao 64 cap,.int .i64 q,.string (str (leB n k))] w2 (Gives w2.heap.size w2 (lay zs q (bytesOf (str (leB n k)))))):=
          Lib.hid (fun w2 hb=>fWith_any ao cap zs q _ w2 (HB.out.later hb) (by rw [str_size,leB_length];omega) (by omega))
        go_enter Tryz.func138,Tryz.ntmps138
        go_wp2_with (first | (go_at_call 188;refine cK.mono ?_;rintro e w' ⟨rfl,rfl⟩) | (go_at_call 142;refine cB.mono ?_;rintro e w2 ⟨rfl,hb2⟩;have HB2:=Lib.hid hb2;clear hb2) | (go_at_call 132;refine (HC.out _ HB2.out).mono ?_;rintro e w3 ⟨v3,rfl,hf3,hb3⟩;have HF3:=Lib.hid hf3;have HB3:=Lib.hid hb3;clear hf3 hb3))
        go_ret2
        exact ⟨v3,by rw [HE7.out];rfl,by rw [HE8.out];exact HF3.out.mono HB2.out.size,HB2.out.trans (HB3.out.mono HB2.out.size)⟩
  · have HE7:Hid (setErr len p size n=fErr len p size):=Lib.hid (by unfold setErr;rw [if_pos hE])
    have HE8:Hid (setOut zs p size n=[]):=Lib.hid (setOut_err (by rw [hl,HE7.out];exact hE))
    obtain ⟨E,HE⟩:∃ E,Hid (fErr len p size=E):=⟨_,Lib.hid rfl⟩
    rw [HE.out] at hE cK HE7
    have hne:(E != 0)=true:=by simp;exact hE
    clear hB hl hE hp hs hn hlen
    go_enter Tryz.func138,Tryz.ntmps138
    go_wp2_with (go_at_call 188;refine cK.mono ?_;rintro e w' ⟨rfl,rfl⟩)
    go_ret2
    exact ⟨.slice none 0 0,by rw [HE7.out];rfl,by rw [HE8.out];exact Fresh.nil _ _,Below.refl _ _⟩
end Go.Proofs.YtcefmpnijjcekaaGreatDoor
namespace Go.Proofs.YtcefmpnijjcekaaGreatDoor
open Go.RowKit
set_option maxHeartbeats 400000 in
theorem fGet_any (ao:Option Addr) (len cap:Nat) (zs:List Int) (p size:Int) (w:World) (hA:Arg w ao len cap zs) (hp:-9223372036854775808≤p∧p≤9223372036854775807) (hs:-9223372036854775808≤size∧size≤9223372036854775807) :
    Calls Tryz.prog 141 #[.slice ao len cap,.int .i64 p,.int .i64 size] w fun e w'=>e=.returned (.tuple #[.int .i64 (getOut zs p size),.int .i64 (fErr len p size)])∧w=w':=by
  obtain ⟨hB,_,_,hlen⟩:=hA
  have hl:=hB.1
  have cK:=fNumber_any ao len cap p size w hlen hp
  unfold getOut
  rw [hl]
  by_cases hE:fErr len p size=0
  · have ho:=fErr_ok hE
    have hlen:len=64:=ho.1
    subst hlen
    obtain ⟨k,hk⟩:∃ k:Nat,size=k:=⟨size.toNat,by omega⟩
    obtain ⟨q,hq⟩:∃ q:Nat,p=q:=⟨p.toNat,by omega⟩
    subst hk
    subst hq
    rw [if_pos hE,hE]
    rw [hE] at cK
    have e1:Int.toNat (q:Int)=q:=by omega
    have e2:Int.toNat (k:Int)=k:=by omega
    rw [e1,e2]
    have k4:k≤4:=by omega
    have hq60:q+k≤60:=by omega
    obtain ⟨b,off,rfl,hc⟩:=hB.2.2.2.resolve_left (by decide)
    have hz:=hB.2.2.1
    have HL:=Lib.hid hl
    clear hB hl hE ho e1 e2 hp hs hlen
    go_enter Tryz.func141,Tryz.ntmps141
    go_wp2_with (go_at_call 188;refine cK.mono ?_;rintro e w' ⟨rfl,rfl⟩)
    go_loop [9,19] (fun nv iv=>∃ j:Nat,j≤k∧iv=.int .i64 j∧nv=.int .i64 (leN zs q j)) (fun _ iv=>k - (intOf iv).toNat)
    case atStart=>exact ⟨0,Nat.zero_le _,rfl,rfl⟩
    case round=>
      obtain ⟨j,hj,rfl,rfl⟩:=hrel
      by_cases hlt:j < k
      · have hx:=hz _ (getD_mem (l:=zs) (k:=q+j) (by rw [HL.out];omega))
        have hb:=leN_bounds hz q j (by rw [HL.out];omega)
        have hb4:=leN_four hz q (j+1) (by rw [HL.out];omega) (by omega)
        have hcell:=hc (q+j) (by omega)
        have HN:Hid (leN zs q (j+1)=leN zs q j+zs.getD (q+j) 0 * 2^(8 * j)):=Lib.hid (by rw [pow_two_bytes];rfl)
        rw [HN.out] at hb4
        rw [← pow_two_bytes] at hb
        generalize leN zs q j=a at *
        obtain ⟨x,HX⟩:∃ x,Hid (x=zs.getD (q+j) 0):=⟨_,Lib.hid rfl⟩
        rw [← HX.out] at hx hcell hb4 HN
        have hor:=or_parts hb hx.1 (by omega)
        have hm:0≤x * 2^(8 * j):=Int.mul_nonneg hx.1 (Int.le_of_lt (Int.pow_pos (by decide)))
        have hm2:x * 2^(8 * j)≤4294967295:=by omega
        obtain ⟨hx0,hx1⟩:=hx
        obtain ⟨ha0,_⟩:=hb
        clear hz hc hb4
        have i1:(0:Int)≤(q:Int)+(j:Int):=by omega
        have i2:(q:Int)+(j:Int) < (64:Int):=by omega
        go_wp2
        go_round
        case rel=>exact ⟨j+1,by omega,by go_num,by rw [HN.out]⟩
        case measure=>simp [intOf];omega
      · have hjk:j=k:=by omega
        subst hjk
        clear hz hc
        go_wp2
        go_ret2
        exact ⟨rfl,rfl⟩
  · rw [if_neg hE]
    obtain ⟨E,HE⟩:∃ E,Hid (fErr len p size=E):=⟨_,Lib.hid rfl⟩
    rw [HE.out] at hE cK ⊢
    have hne:(E != 0)=true:=by simp;exact hE
    clear hB hl hE hp hs hlen
    go_enter Tryz.func141,Tryz.ntmps141
    go_wp2_with (go_at_call 188;refine cK.mono ?_;rintro e w' ⟨rfl,rfl⟩)
    go_ret2
    exact ⟨rfl,rfl⟩
end Go.Proofs.YtcefmpnijjcekaaGreatDoor
namespace Go.Proofs.YtcefmpnijjcekaaGreatDoor
open Go.RowKit
theorem textErr_place (len:Nat) (p:Int) (n:Nat):textErr len p n=placeErr len p n:=by
  unfold textErr placeErr
  by_cases h:len=64
  · rw [if_pos h,if_pos h]
    by_cases h1:p < 0∨60 - p < n
    · rw [if_pos h1,if_pos (by omega)]
    · rw [if_neg h1,if_neg (by omega)]
  · rw [if_neg h,if_neg h]
set_option maxHeartbeats 400000 in
theorem fText_any (ao:Option Addr) (len cap:Nat) (zs:List Int) (p:Int) (s:ByteArray) (w:World) (hA:Arg w ao len cap zs) (hp:-9223372036854775808≤p∧p≤9223372036854775807) (hsz:s.size≤9223372036854775807) :
    Calls Tryz.prog 137 #[.slice ao len cap,.int .i64 p,.string s] w (Handed w.heap.size w (textOut zs p (bytesOf s)) (textErr len p s.size)):=by
  obtain ⟨hB,_,_,hlen⟩:=hA
  have hl:=hB.1
  have cK:=fPlace_any ao len cap p s.size w hlen hp
  have HO:Hid (textOut zs p (bytesOf s)=if placeErr len p s.size=0 then zs.take p.toNat ++ bytesOf s ++ zs.drop (p.toNat+(bytesOf s).length) else []):=Lib.hid (by
    unfold textOut
    rw [hl,bytesOf_length,textErr_place])
  rw [textErr_place]
  by_cases hE:placeErr len p s.size=0
  · have ho:len=64∧0≤p∧p+s.size≤60:=by
      unfold placeErr at hE
      by_cases h:len=64
      · rw [if_pos h] at hE
        by_cases h1:p < 0∨60 - p < s.size
        · rw [if_pos h1] at hE;exact absurd hE (by decide)
        · omega
      · rw [if_neg h] at hE;exact absurd hE (by decide)
    have hlen:len=64:=ho.1
    subst hlen
    obtain ⟨q,hq⟩:∃ q:Nat,p=q:=⟨p.toNat,by omega⟩
    subst hq
    have e2:Int.toNat (q:Int)=q:=by omega
    have HE8:Hid (textOut zs q (bytesOf s)=lay zs q (bytesOf s)):=Lib.hid (by
      rw [HO.out,if_pos hE,e2,lay_eq _ _ _ (by rw [hl,bytesOf_length];omega)])
    rw [hE] at cK ⊢
    have cW:=fWith_any ao cap zs q s w hB (by omega) (by omega)
    clear hB hl hE ho hlen e2 hp HO
    go_enter Tryz.func137,Tryz.ntmps137
    go_wp2_with (first | (go_at_call 187;refine cK.mono ?_;rintro e w' ⟨rfl,rfl⟩) | (go_at_call 132;refine cW.mono ?_;rintro e w3 ⟨v3,rfl,hf3,hb3⟩;have HF3:=Lib.hid hf3;have HB3:=Lib.hid hb3;clear hf3 hb3))
    go_ret2
    exact ⟨v3,rfl,by rw [HE8.out];exact HF3.out,HB3.out⟩
  · have HE8:Hid (textOut zs p (bytesOf s)=[]):=Lib.hid (by rw [HO.out,if_neg hE])
    obtain ⟨E,HE⟩:∃ E,Hid (placeErr len p s.size=E):=⟨_,Lib.hid rfl⟩
    rw [HE.out] at hE cK ⊢
    have hne:(E != 0)=true:=by simp;exact hE
    clear hB hl hE hp hlen HO
    go_enter Tryz.func137,Tryz.ntmps137
    go_wp2_with (go_at_call 187;refine cK.mono ?_;rintro e w' ⟨rfl,rfl⟩)
    go_ret2
    exact ⟨.slice none 0 0,rfl,by rw [HE8.out];exact Fresh.nil _ _,Below.refl _ _⟩
end Go.Proofs.YtcefmpnijjcekaaGreatDoor
namespace Go.Proofs.YtcefmpnijjcekaaGreatDoor
open Go.RowKit
def inB (n lo hi:Int):Bool:=decide (lo≤n∧n≤hi)
theorem within_any (n lo hi:Int) (w:World):Calls Tryz.prog 136 #[.int .i64 n,.int .i64 lo,.int .i64 hi] w fun e w'=>e=.returned (.bool (inB n lo hi))∧w=w':=by
  by_cases h1:lo≤n
  · by_cases h2:n≤hi
    · have HE:Hid (inB n lo hi=true):=Lib.hid (decide_eq_true ⟨h1,h2⟩)
      go_enter Tryz.func136,Tryz.ntmps136
      go_wp2
      go_ret
      exact ⟨by rw [HE.out];rfl,rfl⟩
    · have HE:Hid (inB n lo hi=false):=Lib.hid (decide_eq_false (fun h=>h2 h.2))
      go_enter Tryz.func136,Tryz.ntmps136
      go_wp2
      go_ret
      exact ⟨by rw [HE.out];rfl,rfl⟩
  · have HE:Hid (inB n lo hi=false):=Lib.hid (decide_eq_false (fun h=>h1 h.1))
    go_enter Tryz.func136,Tryz.ntmps136
    go_wp2
    go_ret
    exact ⟨by rw [HE.out];rfl,rfl⟩
def PlIs (w:World) (gp g:Nat) (ps:List (Nat × Nat)):Prop:=
  ∀ (j a b:Nat),ps[j]?=some (a,b)→w.cell? ⟨gp,j * 3,none⟩=some (.int .i64 (a:Int))∧w.cell? ⟨gp,j * 3+1,none⟩=some (.int .i64 (b:Int))∧w.cell? ⟨gp,j * 3+2,none⟩=some (.pointer (some ⟨g,j,none⟩))
def supPs:List (Nat × Nat):=[(4,2),(6,1),(7,1),(8,1),(10,2)]
def headPs:List (Nat × Nat):=[(4,1),(8,4)]
def smallPs (ps:List (Nat × Nat)):Prop:=∀ (j a b:Nat),ps[j]?=some (a,b)→a≤60∧b≤4
theorem small_sup:smallPs supPs:=fun j a b h=>by
  match j with
  | 0 | 1 | 2 | 3 | 4=>cases Option.some.inj h;omega
  | n+5=>cases h
theorem small_head:smallPs headPs:=fun j a b h=>by
  match j with
  | 0 | 1=>cases Option.some.inj h;omega
  | n+2=>cases h
theorem PlIs.later {w w':World} {gp g:Nat} {ps:List (Nat × Nat)} (h:PlIs w gp g ps) (hb:Below w.heap.size w w'):PlIs w' gp g ps:=fun j a b hj=>by
  obtain ⟨h1,h2,h3⟩:=h j a b hj
  exact ⟨cell_later hb h1,cell_later hb h2,cell_later hb h3⟩
theorem new_cell (w:World) (cs:Array Value) (T:TypeId) (j:Nat) (v:Value) (h:cs[j]?=some v):(w.alloc (.cells cs T)).drew.cell? ⟨w.heap.size,j,none⟩=some v:=by
  show (w.alloc (.cells cs T)).cell? ⟨w.heap.size,j,none⟩=some v
  rw [World.cell?_alloc_new];exact h
set_option maxRecDepth 100000 in
set_option maxHeartbeats 800000 in
theorem headPlaces_any (g:Nat) (w:World):Calls Tryz.prog 89 #[.pointer (some ⟨g,0,none⟩)] w fun e w'=>e=.returned (.slice (some ⟨w.heap.size,0,none⟩) (2:Nat) (2:Nat))∧PlIs w' w.heap.size g headPs∧Below w.heap.size w w':=by
  go_enter Tryz.func89,Tryz.ntmps89
  go_wp2_with fail
  refine wp_region_still_tail 8 (by kernel_rfl) (by kernel_rfl) ?_
  simp only [List.take_succ_cons,List.take_zero,List.drop_succ_cons,List.drop_zero]
  try rw [drew_eq]
  iterate 8 still_step
  refine wpStill_nil ?_
  go_wp2_with fail
  go_ret
  refine ⟨rfl,fun j a b h=>?_,((Below.refl _ _).alloc (Nat.le_refl _) _).drew⟩
  match j with
  | 0 | 1=>cases Option.some.inj h;exact ⟨new_cell w _ _ _ _ rfl,new_cell w _ _ _ _ rfl,new_cell w _ _ _ _ rfl⟩
  | n+2=>cases h
set_option maxRecDepth 100000 in
set_option maxHeartbeats 800000 in
theorem superPlaces_any (g:Nat) (w:World):Calls Tryz.prog 83 #[.pointer (some ⟨g,0,none⟩)] w fun e w'=>e=.returned (.slice (some ⟨w.heap.size,0,none⟩) (5:Nat) (5:Nat))∧PlIs w' w.heap.size g supPs∧Below w.heap.size w w':=by
  go_enter Tryz.func83,Tryz.ntmps83
  go_wp2_with fail
  refine wp_region_still_tail 20 (by kernel_rfl) (by kernel_rfl) ?_
  simp only [List.take_succ_cons,List.take_zero,List.drop_succ_cons,List.drop_zero]
  try rw [drew_eq]
  iterate 20 still_step
  refine wpStill_nil ?_
  go_wp2_with fail
  go_ret
  refine ⟨rfl,fun j a b h=>?_,((Below.refl _ _).alloc (Nat.le_refl _) _).drew⟩
  match j with
  | 0 | 1 | 2 | 3 | 4=>cases Option.some.inj h;exact ⟨new_cell w _ _ _ _ rfl,new_cell w _ _ _ _ rfl,new_cell w _ _ _ _ rfl⟩
  | n+5=>cases h
set_option maxHeartbeats 800000 in
theorem soundHead_any (h:PHead) (w:World):Calls Tryz.prog 97 #[h.val] w fun e w'=>e=.returned (.bool h.sound)∧Below w.heap.size w w':=by
  obtain ⟨a,b⟩:=h
  have hS:Hid (PHead.sound ⟨a,b⟩=(inB a 0 39&&inB b 1 1073741824)):=Lib.hid (by unfold PHead.sound inB;rw [Bool.eq_iff_iff];simp;omega)
  have hB:Hid (Below w.heap.size w (w.alloc (.cells #[.int .i64 a,.int .i64 b] 60))):=Lib.hid ((Below.refl _ _).alloc (Nat.le_refl _) _)
  unfold PHead.val
  cases h0:inB a 0 39 with
  | false=>
    have H0:=Lib.hid h0
    clear h0
    go_enter Tryz.func97,Tryz.ntmps97
    go_wp2_with (go_at_call 136;refine (within_any _ _ _ _).mono ?_;rintro e w' ⟨rfl,rfl⟩;(try rw [H0.out]))
    go_ret
    exact ⟨by rw [hS.out,H0.out];rfl,hB.out⟩
  | true=>
    cases h1:inB b 1 1073741824 with
    | false=>
      have H0:=Lib.hid h0
      have H1:=Lib.hid h1
      clear h0 h1
      go_enter Tryz.func97,Tryz.ntmps97
      go_wp2_with (go_at_call 136;refine (within_any _ _ _ _).mono ?_;rintro e w' ⟨rfl,rfl⟩;(try rw [H0.out]);(try rw [H1.out]))
      go_ret
      exact ⟨by rw [hS.out,H0.out,H1.out];rfl,hB.out⟩
    | true=>
      have H0:=Lib.hid h0
      have H1:=Lib.hid h1
      clear h0 h1
      go_enter Tryz.func97,Tryz.ntmps97
      go_wp2_with (go_at_call 136;refine (within_any _ _ _ _).mono ?_;rintro e w' ⟨rfl,rfl⟩;(try rw [H0.out]);(try rw [H1.out]))
      go_ret
      exact ⟨by rw [hS.out,H0.out,H1.out];rfl,hB.out⟩
set_option maxHeartbeats 1600000 in
theorem soundSuper_any (h:PSup) (w:World):Calls Tryz.prog 81 #[h.val] w fun e w'=>e=.returned (.bool h.sound)∧Below w.heap.size w w':=by
  obtain ⟨a,b,c,d,e⟩:=h
  have hS:Hid (PSup.sound ⟨a,b,c,d,e⟩=(inB a 64 480&&inB b 1 3&&inB c 0 3&&inB d 0 32&&inB e 0 480)):=Lib.hid (by unfold PSup.sound inB;rw [Bool.eq_iff_iff];simp;omega)
  have hB:Hid (Below w.heap.size w (w.alloc (.cells #[.int .i64 a,.int .i64 b,.int .i64 c,.int .i64 d,.int .i64 e] 36))):=Lib.hid ((Below.refl _ _).alloc (Nat.le_refl _) _)
  unfold PSup.val
  cases h0:inB a 64 480 with
  | false=>
    have H0:=Lib.hid h0
    clear h0
    go_enter Tryz.func81,Tryz.ntmps81
    go_wp2_with (go_at_call 136;refine (within_any _ _ _ _).mono ?_;rintro e w' ⟨rfl,rfl⟩;(try rw [H0.out]))
    go_ret
    exact ⟨by rw [hS.out,H0.out];rfl,hB.out⟩
  | true=>
    cases h1:inB b 1 3 with
    | false=>
      have H0:=Lib.hid h0
      have H1:=Lib.hid h1
      clear h0 h1
      go_enter Tryz.func81,Tryz.ntmps81
      go_wp2_with (go_at_call 136;refine (within_any _ _ _ _).mono ?_;rintro e w' ⟨rfl,rfl⟩;(try rw [H0.out]);(try rw [H1.out]))
      go_ret
      exact ⟨by rw [hS.out,H0.out,H1.out];rfl,hB.out⟩
    | true=>
      cases h2:inB c 0 3 with
      | false=>
        have H0:=Lib.hid h0
        have H1:=Lib.hid h1
        have H2:=Lib.hid h2
        clear h0 h1 h2
        go_enter Tryz.func81,Tryz.ntmps81
        go_wp2_with (go_at_call 136;refine (within_any _ _ _ _).mono ?_;rintro e w' ⟨rfl,rfl⟩;(try rw [H0.out]);(try rw [H1.out]);(try rw [H2.out]))
        go_ret
        exact ⟨by rw [hS.out,H0.out,H1.out,H2.out];rfl,hB.out⟩
      | true=>
        cases h3:inB d 0 32 with
        | false=>
          have H0:=Lib.hid h0
          have H1:=Lib.hid h1
          have H2:=Lib.hid h2
          have H3:=Lib.hid h3
          clear h0 h1 h2 h3
          go_enter Tryz.func81,Tryz.ntmps81
          go_wp2_with (go_at_call 136;refine (within_any _ _ _ _).mono ?_;rintro e w' ⟨rfl,rfl⟩;(try rw [H0.out]);(try rw [H1.out]);(try rw [H2.out]);(try rw [H3.out]))
          go_ret
          exact ⟨by rw [hS.out,H0.out,H1.out,H2.out,H3.out];rfl,hB.out⟩
        | true=>
          cases h4:inB e 0 480 with
          | false=>
            have H0:=Lib.hid h0
            have H1:=Lib.hid h1
            have H2:=Lib.hid h2
            have H3:=Lib.hid h3
            have H4:=Lib.hid h4
            clear h0 h1 h2 h3 h4
            go_enter Tryz.func81,Tryz.ntmps81
            go_wp2_with (go_at_call 136;refine (within_any _ _ _ _).mono ?_;rintro e w' ⟨rfl,rfl⟩;(try rw [H0.out]);(try rw [H1.out]);(try rw [H2.out]);(try rw [H3.out]);(try rw [H4.out]))
            go_ret
            exact ⟨by rw [hS.out,H0.out,H1.out,H2.out,H3.out,H4.out];rfl,hB.out⟩
          | true=>
            have H0:=Lib.hid h0
            have H1:=Lib.hid h1
            have H2:=Lib.hid h2
            have H3:=Lib.hid h3
            have H4:=Lib.hid h4
            clear h0 h1 h2 h3 h4
            go_enter Tryz.func81,Tryz.ntmps81
            go_wp2_with (go_at_call 136;refine (within_any _ _ _ _).mono ?_;rintro e w' ⟨rfl,rfl⟩;(try rw [H0.out]);(try rw [H1.out]);(try rw [H2.out]);(try rw [H3.out]);(try rw [H4.out]))
            go_ret
            exact ⟨by rw [hS.out,H0.out,H1.out,H2.out,H3.out,H4.out];rfl,hB.out⟩
end Go.Proofs.YtcefmpnijjcekaaGreatDoor
namespace Go.Proofs.YtcefmpnijjcekaaGreatDoor
open Go.RowKit
def wrt (zs:List Int) (ps:List (Nat × Nat)) (vs:List Int):Nat→List Int
  | 0=>zs
  | i+1=>setOut (wrt zs ps vs i) ((ps.getD i (0,0)).1:Nat) ((ps.getD i (0,0)).2:Nat) (vs.getD i 0)
theorem ps_at {ps:List (Nat × Nat)} {i:Nat} (h:i < ps.length):ps[i]?=some ((ps.getD i (0,0)).1,(ps.getD i (0,0)).2):=by
  simp [List.getD,h]
theorem fresh_form {w:World} {base:Nat} {v:Value} {l:List Int} (h:Fresh w base v l):∃ ao cap,v=.slice ao l.length cap∧Arg w ao l.length cap l:=by
  obtain ⟨ao,cap,hv,hA,_⟩:=h
  exact ⟨ao,cap,hv,hA⟩
set_option maxHeartbeats 1600000 in
theorem write_any (s:ByteArray) (gp g n:Nat) (ps:List (Nat × Nat)) (vs:List Int) (w:World) (hs:s.size≤60) (hn:ps.length=n) (hn5:n≤5) (hps:smallPs ps) (hp:PlIs w gp g ps) (hv:∀ j,j < n→w.cell? ⟨g,j,none⟩=some (.int .i64 (vs.getD j 0))) (hi:∀ j,j < n→i64w (vs.getD j 0)) :
    Calls Tryz.prog 82 #[.string s,.slice (some ⟨gp,0,none⟩) n n] w (Gives w.heap.size w (sealOut sumS (wrt (textOut zeroes64 0 (bytesOf s)) ps vs n))):=by
  have hmk:=run_make_bytes w 64 (by decide)
  rw [show ((64:Nat):Int)=64 from rfl] at hmk
  have hA0:=made_arg w 64 (by decide)
  have hB0:Below w.heap.size w (w.alloc (.cells (madeCells #[.int .u8 0] 64) 5)):=(Below.refl _ _).alloc (Nat.le_refl _) _
  have HP:=Lib.hid hp
  have HPS:=Lib.hid hps
  have HV:=Lib.hid hv
  have HI:=Lib.hid hi
  clear hp hps hv hi
  generalize hw1:w.alloc (.cells (madeCells #[.int .u8 0] 64) 5)=w1 at *
  have HW1:=Lib.hid hw1
  have HB0:=Lib.hid hB0
  have cT:=fText_any _ 64 64 (List.replicate 64 0) 0 s w1 hA0 (by decide) (by omega)
  clear hw1 hB0 hA0
  go_enter Tryz.func82,Tryz.ntmps82
  go_wp2_with (go_at_call 137;refine cT.mono ?_;rintro e w2 ⟨v2,rfl,hf2,hb2⟩;have F2:=Lib.hid (hf2.mono HB0.out.size);have B2:=Lib.hid (HB0.out.trans (hb2.mono HB0.out.size));clear hf2 hb2)
  go_loopw [5,17] (fun bv iv wr=>∃ i:Nat,iv=.int .i64 (i:Int)∧i≤n∧Hid (Fresh wr w.heap.size bv (wrt (textOut zeroes64 0 (bytesOf s)) ps vs i))∧Hid (Below w.heap.size w wr)) (fun _ iv _=>n - (intOf iv).toNat)
  case atStart=>exact ⟨0,rfl,Nat.zero_le _,F2,B2⟩
  case round=>
    obtain ⟨i,rfl,hi,HF,HB⟩:=hrel
    by_cases hlt:i < n
    · obtain ⟨a,ha⟩:∃ a,(ps.getD i (0,0)).1=a:=⟨_,rfl⟩
      obtain ⟨b,hb⟩:∃ b,(ps.getD i (0,0)).2=b:=⟨_,rfl⟩
      obtain ⟨x,hx⟩:∃ x,vs.getD i 0=x:=⟨_,rfl⟩
      have hat:=ps_at (ps:=ps) (i:=i) (by omega)
      rw [ha,hb] at hat
      obtain ⟨c1,c2,c3⟩:=HP.out i a b hat
      have c4:=HV.out i hlt
      have hsm:=HPS.out i a b hat
      have hxi:=HI.out i hlt
      rw [hx] at c4 hxi
      unfold i64w at hxi
      have HS:Hid (wrt (textOut zeroes64 0 (bytesOf s)) ps vs (i+1)=setOut (wrt (textOut zeroes64 0 (bytesOf s)) ps vs i) (a:Nat) (b:Nat) x):=Lib.hid (by
        show setOut _ _ _ _=_
        rw [ha,hb,hx])
      generalize wrt (textOut zeroes64 0 (bytesOf s)) ps vs i=L at *
      obtain ⟨ao,cap,rfl,hA⟩:=fresh_form HF.out
      have d1:=cell_later HB.out c1
      have d2:=cell_later HB.out c2
      have d3:=cell_later HB.out c3
      have d4:=cell_later HB.out c4
      have hgl:=World.block_lt_of_cell? _ _ d4
      have HC:Hid (∀ W,Below wr.heap.size wr W→Calls Tryz.prog 138 #[.slice ao L.length cap,.int .i64 (a:Int),.int .i64 (b:Int),.int .i64 x] W (Handed W.heap.size W (setOut L a b x) (setErr L.length a b x))):=
        Lib.hid (fun W hW=>fSet_any ao L.length cap L a b x W (hA.later hW) (by omega) (by omega) hxi)
      have HN:Hid (Below wr.heap.size wr (wr.alloc (.cells #[.int .i64 (a:Int),.int .i64 (b:Int),.pointer (some ⟨g,i,none⟩)] 195)).drew):=Lib.hid ((Below.refl _ _).alloc (Nat.le_refl _) _).drew
      have HK:Hid (∀ W,Below (wr.alloc (.cells #[.int .i64 (a:Int),.int .i64 (b:Int),.pointer (some ⟨g,i,none⟩)] 195)).drew.heap.size (wr.alloc (.cells #[.int .i64 (a:Int),.int .i64 (b:Int),.pointer (some ⟨g,i,none⟩)] 195)).drew W→W.cell? ⟨wr.heap.size,0,none⟩=some (.int .i64 (a:Int))∧W.cell? ⟨wr.heap.size,1,none⟩=some (.int .i64 (b:Int))∧W.cell? ⟨wr.heap.size,2,none⟩=some (.pointer (some ⟨g,i,none⟩))∧W.cell? ⟨g,i,none⟩=some (.int .i64 x)∧Hid (Below wr.heap.size wr W)):=Lib.hid (fun W hW=>
        ⟨cell_later hW (new_cell wr _ _ _ _ rfl),cell_later hW (new_cell wr _ _ _ _ rfl),cell_later hW (new_cell wr _ _ _ _ rfl),cell_later hW (cell_later HN.out d4),Lib.hid (HN.out.trans (hW.mono HN.out.size))⟩)
      have i1:(i:Int) < (n:Int):=by omega
      generalize L.length=len at *
      clear ha hb hx hat c1 c2 c3 c4 hsm hA hxi
      go_wp2_with fail
      go_region_held (fun W=>W.cell? ⟨wr.heap.size,0,none⟩=some (.int .i64 (a:Int))∧W.cell? ⟨wr.heap.size,1,none⟩=some (.int .i64 (b:Int))∧W.cell? ⟨wr.heap.size,2,none⟩=some (.pointer (some ⟨g,i,none⟩))∧W.cell? ⟨g,i,none⟩=some (.int .i64 x)∧Hid (Below wr.heap.size wr W)) (first | exact HK.out _ (Below.refl _ _) | exact HK.out _ B5.out)
        (first | (go_at_call 138;refine (HC.out _ HN.out).mono ?_;rintro e w5 ⟨v5,rfl,hf5,hb5⟩;have F5:=Lib.hid hf5;have B5:=Lib.hid hb5;clear hf5 hb5))
      go_wp2_with fail
      go_roundw
      case rel=>exact ⟨i+1,by go_num,by omega,Lib.hid (by rw [HS.out];exact F5.out.mono (Nat.le_trans HB.out.size HN.out.size)),Lib.hid ((HB.out.trans (HN.out.mono HB.out.size)).trans (B5.out.mono (Nat.le_trans HB.out.size HN.out.size)))⟩
      case measure=>simp [intOf];omega
    · have hin:i=n:=by omega
      subst hin
      obtain ⟨ao,cap,rfl,hA⟩:=fresh_form HF.out
      have cS:=fSeal_any ao _ cap _ wr hA
      clear hA
      generalize wrt (textOut zeroes64 0 (bytesOf s)) ps vs i=L at *
      generalize L.length=len at *
      go_wp2_with (go_at_call 77;refine cS.mono ?_;rintro e w5 ⟨v5,rfl,hf5,hb5⟩;have F5:=Lib.hid hf5;have B5:=Lib.hid hb5;clear hf5 hb5)
      go_ret
      exact ⟨v5,rfl,F5.out.mono HB.out.size,HB.out.trans (B5.out.mono HB.out.size)⟩
def Rd (w0:World) (gp g:Nat) (ps:List (Nat × Nat)) (n:Nat) (zs:List Int) (i:Nat) (wr:World):Prop:=
  Below w0.heap.size w0 wr∧PlIs wr gp g ps∧(∀ j,j < n→wr.cell? ⟨g,j,none⟩=some (.int .i64 (if j < i then getOut zs ((ps.getD j (0,0)).1:Nat) ((ps.getD j (0,0)).2:Nat) else 0)))∧(∀ j,wr.frozen? ⟨g,j,none⟩=false)
theorem Rd.alloc {w0 wr:World} {gp g n i:Nat} {ps:List (Nat × Nat)} {zs:List Int} (h:Rd w0 gp g ps n zs i wr) (hg:g < wr.heap.size) (o:Obj):Rd w0 gp g ps n zs i (wr.alloc o):=by
  have hb:Below wr.heap.size wr (wr.alloc o):=(Below.refl _ _).alloc (Nat.le_refl _) _
  exact ⟨h.1.trans (hb.mono h.1.size),h.2.1.later hb,fun j hj=>cell_later hb (h.2.2.1 j hj),fun j=>by rw [hb.frozen (p:=⟨g,j,none⟩) hg];exact h.2.2.2 j⟩
theorem Rd.step {w0 wr:World} {gp g n i:Nat} {ps:List (Nat × Nat)} {zs:List Int} (h:Rd w0 gp g ps n zs i wr) (hg:w0.heap.size≤g) (hne:gp≠g) (hi:i < n) {x:Int} (hx:x=getOut zs ((ps.getD i (0,0)).1:Nat) ((ps.getD i (0,0)).2:Nat)):Rd w0 gp g ps n zs (i+1) (wr.setCell ⟨g,i,none⟩ (.int .i64 x)):=by
  refine ⟨h.1.setCell (p:=⟨g,i,none⟩) hg _,fun j a b hj=>?_,fun j hj=>?_,fun j=>by simpa using h.2.2.2 j⟩
  · obtain ⟨h1,h2,h3⟩:=h.2.1 j a b hj
    refine ⟨?_,?_,?_⟩
    all_goals rw [World.cell?_setCell_other (h:=by intro e;exact hne (by simpa using (congrArg Addr.block e).symm))]
    · exact h1
    · exact h2
    · exact h3
  · by_cases e:j=i
    · subst e
      rw [if_pos (by omega),← hx]
      exact World.cell?_setCell_same wr _ _ (h.2.2.1 j hj)
    · rw [World.cell?_setCell_other (h:=by intro e';exact e (by simpa using (congrArg Addr.off e').symm)),h.2.2.1 j hj]
      by_cases h1:j < i
      · rw [if_pos h1,if_pos (by omega)]
      · rw [if_neg h1,if_neg (by omega)]
theorem kept_made {wr:World} {g i b:Nat} {o:Obj} {v:Value} (hb:b≠g) (hl:b < wr.heap.size):((wr.alloc o).setCell ⟨g,i,none⟩ v).drew.heap[b]?=wr.heap[b]?:=by
  show ((wr.alloc o).setCell ⟨g,i,none⟩ v).heap[b]?=wr.heap[b]?
  rw [Below.heap_setCell _ _ _ _ hb]
  exact ((Below.refl wr.heap.size wr).alloc (Nat.le_refl _) o).block b hl
theorem Rd.drew {w0 wr:World} {gp g n i:Nat} {ps:List (Nat × Nat)} {zs:List Int} (h:Rd w0 gp g ps n zs i wr):Rd w0 gp g ps n zs i wr.drew:=
  ⟨h.1.drew,fun j a b hj=>h.2.1 j a b hj,fun j hj=>h.2.2.1 j hj,fun j=>h.2.2.2 j⟩
set_option maxHeartbeats 3200000 in
theorem read_any (ao:Option Addr) (len cap:Nat) (zs:List Int) (gp g n:Nat) (ps:List (Nat × Nat)) (w0 w:World) (hA:Arg w0 ao len cap zs) (hn:ps.length=n) (hn5:n≤5) (hps:smallPs ps) (hg:w0.heap.size≤g) (hgl:g < w.heap.size) (hne:gp≠g) (h:Rd w0 gp g ps n zs 0 w) :
    Calls Tryz.prog 87 #[.slice ao len cap,.slice (some ⟨gp,0,none⟩) n n] w fun e w'=>e=.returned (.tuple #[])∧Rd w0 gp g ps n zs n w'∧w.heap.size≤w'.heap.size∧∀ b,b < w.heap.size→b≠g→w'.heap[b]?=w.heap[b]?:=by
  have HA:=Lib.hid hA
  have HPS:=Lib.hid hps
  have H0:=Lib.hid h
  clear hA hps h
  go_enter Tryz.func87,Tryz.ntmps87
  go_wp2_with fail
  go_loopw [8] (fun iv wr=>∃ i:Nat,iv=.int .i64 (i:Int)∧i≤n∧Hid (Rd w0 gp g ps n zs i wr)∧Hid (w.heap.size≤wr.heap.size∧∀ b,b < w.heap.size→b≠g→wr.heap[b]?=w.heap[b]?)) (fun iv _=>n - (intOf iv).toNat)
  case atStart=>exact ⟨0,rfl,Nat.zero_le _,H0,Lib.hid ⟨Nat.le_refl _,fun _ _ _=>rfl⟩⟩
  case round=>
    obtain ⟨i,rfl,hi,HR,HZ⟩:=hrel
    by_cases hlt:i < n
    · obtain ⟨a,ha⟩:∃ a,(ps.getD i (0,0)).1=a:=⟨_,rfl⟩
      obtain ⟨b,hb⟩:∃ b,(ps.getD i (0,0)).2=b:=⟨_,rfl⟩
      have hat:=ps_at (ps:=ps) (i:=i) (by omega)
      rw [ha,hb] at hat
      obtain ⟨c1,c2,c3⟩:=HR.out.2.1 i a b hat
      have c4:=HR.out.2.2.1 i hlt
      rw [if_neg (by omega)] at c4
      have hsm:=HPS.out i a b hat
      have hgr:g < wr.heap.size:=World.block_lt_of_cell? _ _ c4
      have HO:Hid (∀ o:Obj,Rd w0 gp g ps n zs (i+1) ((wr.alloc o).setCell ⟨g,i,none⟩ (.int .i64 (getOut zs a b))).drew):=Lib.hid (fun o=>((HR.out.alloc hgr o).step hg hne hlt (by rw [ha,hb])).drew)
      have HG:Hid (∀ W,Below w0.heap.size w0 W→Calls Tryz.prog 141 #[.slice ao len cap,.int .i64 (a:Int),.int .i64 (b:Int)] W (fun e w'=>e=.returned (.tuple #[.int .i64 (getOut zs a b),.int .i64 (fErr len a b)])∧w'=W)):=
        Lib.hid (fun W hW=>(fGet_any ao len cap zs a b W (HA.out.later hW) (by omega) (by omega)).mono (fun e w' h=>⟨h.1,h.2.symm⟩))
      have HN:Hid (Below w0.heap.size w0 (wr.alloc (.cells #[.int .i64 (a:Int),.int .i64 (b:Int),.pointer (some ⟨g,i,none⟩)] 195)).drew):=Lib.hid (HR.out.1.trans (((Below.refl _ _).alloc (Nat.le_refl _) _).drew.mono HR.out.1.size))
      have e4:(wr.alloc (.cells #[.int .i64 (a:Int),.int .i64 (b:Int),.pointer (some ⟨g,i,none⟩)] 195)).cell? ⟨g,i,none⟩=some (.int .i64 0):=cell_later ((Below.refl _ _).alloc (Nat.le_refl _) _) c4
      have f4:(wr.alloc (.cells #[.int .i64 (a:Int),.int .i64 (b:Int),.pointer (some ⟨g,i,none⟩)] 195)).frozen? ⟨g,i,none⟩=false:=(HR.out.alloc hgr _).2.2.2 i
      have i1:(i:Int) < (n:Int):=by omega
      generalize getOut zs a b=x at *
      generalize fErr len a b=E at *
      clear ha hb hat c4 hsm hgr
      go_wp2_with fail
      go_region_with (go_at_call 141;refine (HG.out _ HN.out).mono ?_;rintro e w5 ⟨rfl,rfl⟩)
      all_goals go_wp2_with fail
      all_goals go_roundw
      all_goals first
        | (exact ⟨i+1,by go_num,by omega,Lib.hid (HO.out _),Lib.hid ⟨Nat.le_trans HZ.out.1 (by simp [World.setCell]),fun b' hb' hn'=>(kept_made hn' (Nat.lt_of_lt_of_le hb' HZ.out.1)).trans (HZ.out.2 b' hb' hn')⟩⟩)
        | (simp [intOf];omega)
    · have hin:i=n:=by omega
      subst hin
      go_wp2_with fail
      go_end0
      exact ⟨rfl,HR.out,HZ.out.1,HZ.out.2⟩
end Go.Proofs.YtcefmpnijjcekaaGreatDoor
