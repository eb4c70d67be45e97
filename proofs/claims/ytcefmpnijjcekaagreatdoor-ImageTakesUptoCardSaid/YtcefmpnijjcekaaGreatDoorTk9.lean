/- Proved here: what the landed code of package flags answers: Down. The conditions stand at the theorem. Proved here: what slices.Grow of nothing and slices.Concat of lists of numbers answer. The conditions stand at each theorem. Proved here: what the landed flags' Mark answers of any sound runs, and the landed image's mark and free. The conditions stand at each theorem. .. -/
import Derived.Test.YtcefmpnijjcekaaGreatDoorTk8
import Derived.WalkMore
import Derived.ScopeJumps
import Derived.Test.YtcefmpnijjcekaaGreatDoorTk0
import Derived.Lib.AppendZeros
import Derived.Test.YtcefmpnijjcekaaGreatDoorTk1
import Derived.Deep.RegionWith
import Derived.Test.YtcefmpnijjcekaaGreatDoorLays
import Derived.Shelf.SlicesE.DeleteFunc
set_option linter.unusedVariables false
set_option linter.unusedSimpArgs false
namespace Go.Proofs.YtcefmpnijjcekaaGreatDoor
open Go.RowKit
section
variable {P:Program} {a:Act} {w:World} {Q:Exit→Act→World→Prop}
theorem wp_scope_again {c rest:Code} (l:Nat) (J:Act→World→Prop) (μ:Act→World→Nat) (hf:findLabel c l=some (Code.skip.seq rest))
    (first:(∀ a w,J a w→rest.wp P (Exit.jump l J Q) a w)→c.wp P (Exit.jump l J Q) a w)
    (pass:∀ a w,J a w→rest.wp P (Exit.jump l (fun a' w'=>J a' w'∧μ a' w' < μ a w) Q) a w):(Code.scope c).wp P Q a w:=by
  refine wp_scope_jumps l J μ hf (first (fun a w h=>wp_mono (pass a w h) (fun e a' w' hq=>?_))) (fun a w h=>wp_seq (wp_skip (pass a w h)))
  cases e with
  | goto l'=>exact ⟨hq.1,hq.2.1⟩
  | _=>exact hq
end
theorem gaps_skip {f:Nat→Bool} {n hi:Nat} (h:n < hi) (hf:f n=false):gaps f n n (hi - n)=gaps f (n+1) (n+1) (hi - (n+1)):=by
  obtain ⟨k,hk⟩:∃ k,hi - n=k+1:=⟨hi - n - 1,by omega⟩
  rw [hk,show hi - (n+1)=k by omega]
  conv=>lhs;unfold gaps
  rw [if_neg (show ¬ f n=true by rw [hf];decide),if_neg (Nat.lt_irrefl n)]
theorem gaps_grow {f:Nat→Bool} {first n hi:Nat} (h:n < hi) (hf:f n=true):gaps f first n (hi - n)=gaps f first (n+1) (hi - (n+1)):=by
  obtain ⟨k,hk⟩:∃ k,hi - n=k+1:=⟨hi - n - 1,by omega⟩
  rw [hk,show hi - (n+1)=k by omega]
  conv=>lhs;unfold gaps
  rw [if_pos hf]
theorem gaps_cut {f:Nat→Bool} {first n hi:Nat} (h:n≤hi) (hf:n < hi→f n=false) (hlt:first < n):gaps f first n (hi - n)=(first,n - first)::gaps f n n (hi - n):=by
  by_cases he:n=hi
  · rw [he,Nat.sub_self]
    unfold gaps
    rw [if_pos (by omega),if_neg (Nat.lt_irrefl hi)]
  · rw [gaps_skip (by omega) (hf (by omega))]
    obtain ⟨k,hk⟩:∃ k,hi - n=k+1:=⟨hi - n - 1,by omega⟩
    rw [hk,show hi - (n+1)=k by omega]
    conv=>lhs;unfold gaps
    rw [if_neg (show ¬ f n=true by rw [hf (by omega)];decide),if_pos hlt]
def AtNext (zs:List Int) (lo hi:Nat) (base:Nat) (w0:World) (n:Nat) (vv:Value) (wr:World):Prop:=
  ∃ acc:List (Nat × Nat),lo≤n∧n≤hi∧acc.length≤n∧acc ++ gaps (downs zs) n n (hi - n)=gaps (downs zs) lo lo (hi - lo)∧
    wr.ownsRow base 97 1 vv acc.length (acc.map cV)∧Below base w0 wr
theorem gaps_skips {f:Nat→Bool} {n hi:Nat}:∀ d:Nat,n+d≤hi→(∀ i,n≤i→i < n+d→f i=false)→gaps f n n (hi - n)=gaps f (n+d) (n+d) (hi - (n+d))
  | 0,_,_=>rfl
  | d+1,h,hf=>by
    rw [gaps_skips d (by omega) (fun i h1 h2=>hf i h1 (by omega)),gaps_skip (by omega) (hf (n+d) (by omega) (by omega))]
    rfl
theorem gaps_grows {f:Nat→Bool} {n hi:Nat}:∀ d:Nat,n+d≤hi→(∀ i,n≤i→i < n+d→f i=true)→gaps f n n (hi - n)=gaps f n (n+d) (hi - (n+d))
  | 0,_,_=>rfl
  | d+1,h,hf=>by
    rw [gaps_grows d (by omega) (fun i h1 h2=>hf i h1 (by omega)),gaps_grow (by omega) (hf (n+d) (by omega) (by omega))]
    rfl
def Sought (zs:List Int) (up:Bool) (n hi:Nat) (w:World) (e:Ending) (w':World):Prop:=
  (∃ m:Nat,n≤m∧m≤hi∧e=.returned (.int .i64 m)∧(∀ i,n≤i→i < m→flag zs i=!up)∧(m < hi→flag zs m=up))∧w=w'
set_option maxRecDepth 100000 in
set_option maxHeartbeats 800000 in
theorem seek_any (ao:Option Addr) (cap:Nat) (zs:List Int) (up:Bool) (n hi:Nat) (w:World) (hB:Bts w ao 60 zs) (h1:n≤hi) (h2:hi≤480) :
    Calls Tryz.prog 215 #[.slice ao 60 cap,.bool up,.int .i64 n,.int .i64 hi] w (Sought zs up n hi w):=by
  have HU:Hid (∀ k:Nat,k < 480→Calls Tryz.prog 135 #[.slice ao 60 cap,.int .i64 k] w fun e w''=>e=.returned (.bool (flag zs k))∧w=w''):=Lib.hid (fun k hk=>isUp_any ao cap zs k w hB hk)
  obtain ⟨c,HC⟩:∃ c,Hid (c=!up):=⟨_,Lib.hid rfl⟩
  clear hB
  cases up
  all_goals
    go_enter Tryz.func215,Tryz.ntmps215
    go_wp2_with fail
    go_loop [2] (fun mv=>∃ m:Nat,n≤m∧m≤hi∧mv=.int .i64 m∧Hid (∀ i,n≤i→i < m→flag zs i=c)) (fun mv=>hi - (intOf mv).toNat)
    case atStart=>exact ⟨n,Nat.le_refl _,h1,rfl,Lib.hid (fun i h1 h2=>absurd h1 (by omega))⟩
    case round=>
      obtain ⟨m,hm1,hm2,rfl,HM⟩:=hrel
      by_cases hlt:m < hi
      · have cU:=HU.out m (by omega)
        cases hf:flag zs m
        all_goals
          rw [hf] at cU
          have HF:=Lib.hid hf
          clear hf
          go_wp2_with (go_at_call 135;refine cU.mono ?_;rintro e w' ⟨rfl,rfl⟩)
          first
          | (go_ret
             exact ⟨⟨m,hm1,hm2,rfl,fun i h1 h2=>by rw [HM.out i h1 h2,HC.out],fun _=>HF.out⟩,rfl⟩)
          | (go_round
             case rel=>exact ⟨m+1,by omega,by omega,by go_num,Lib.hid (fun i h1 h2=>by
               by_cases e:i=m
               · rw [e,HF.out,HC.out];rfl
               · exact HM.out i h1 (by omega))⟩
             case measure=>simp [intOf];omega)
      · go_wp2_with fail
        go_ret
        exact ⟨⟨m,hm1,hm2,rfl,fun i h1 h2=>by rw [HM.out i h1 h2,HC.out],fun h=>absurd h hlt⟩,rfl⟩
set_option maxHeartbeats 400000 in
theorem ofF_any (a b:Nat) (w:World) (hb:1≤b) :
    Calls Tryz.prog 100 #[.int .i64 a,.int .i64 b] w fun e w'=>e=.returned (.complex .f64 (floatOfInt .f64 (a:Int)) (floatOfInt .f64 (b:Int)))∧w=w':=by
  have h1:¬ (b:Int) < 1:=by omega
  go_enter Tryz.func100,Tryz.ntmps100
  go_wp2
  go_ret
  exact ⟨rfl,rfl⟩
set_option maxHeartbeats 400000 in
theorem OfF_any (a b:Nat) (w:World) (hb:1≤b) (hab:a+b≤480) :
    Calls Tryz.prog 62 #[.int .i64 a,.int .i64 b] w fun e w'=>e=.returned (.tuple #[.complex .f64 (floatOfInt .f64 (a:Int)) (floatOfInt .f64 (b:Int)),.int .i64 0])∧w=w':=by
  have c:=ofF_any a b w hb
  have h1:¬ (b:Int) < 1:=by omega
  have h2:¬ (480 - (b:Int)) < a:=by omega
  go_enter Tryz.func62,Tryz.ntmps62
  go_wp2_with (go_at_call 100;refine c.mono ?_;rintro e w' ⟨rfl,rfl⟩)
  go_ret2
  exact ⟨rfl,rfl⟩
set_option maxRecDepth 100000 in
set_option maxHeartbeats 1600000 in
theorem xDown_any (ao:Option Addr) (len cap:Nat) (zs:List Int) (p q:Int) (w:World) (hA:Arg w ao len cap zs) (hp:-9223372036854775808≤p∧p≤9223372036854775807) (hq:-9223372036854775808≤q∧q≤9223372036854775807) :
    Calls Tryz.prog 182 #[.slice ao len cap,.int .i64 p,.int .i64 q] w (HandedRuns w.heap.size w (downOut zs p q) (downErr len p q)):=by
  have cP:=part_any ao len cap zs p q w hA hp hq
  obtain ⟨hB,_,_,hlen⟩:=hA
  have hl:=hB.1
  by_cases hok:len=60∧0≤p∧p≤q∧q≤480
  · obtain ⟨rfl,h0,h1,h2⟩:=hok
    have HE:Hid (downErr 60 p q=0):=Lib.hid (by unfold downErr;rw [if_pos rfl,if_neg (by omega)])
    rw [HE.out] at cP
    obtain ⟨lo,hlo⟩:∃ lo:Nat,p=lo:=⟨p.toNat,by omega⟩
    obtain ⟨hi,hhi⟩:∃ hi:Nat,q=hi:=⟨q.toNat,by omega⟩
    subst hlo
    subst hhi
    have HV:Hid (downOut zs lo hi=gaps (downs zs) lo lo (hi - lo)):=Lib.hid (by unfold downOut;rw [hl,HE.out,if_pos rfl];rfl)
    have h480:hi≤480:=by omega
    have hle:lo≤hi:=by omega
    have HB:=Lib.hid hB
    clear hB hl hlen h0 h1 h2 hp hq
    have HJ0:Hid (AtNext zs lo hi w.heap.size w lo (.slice none 0 0) w):=Lib.hid ⟨[],Nat.le_refl _,hle,Nat.zero_le _,rfl,World.ownsRow_nil w w.heap.size 97 1,Below.refl _ _⟩
    go_enter Tryz.func182,Tryz.ntmps182
    go_wp2_with fail
    refine wp_scope_again 0 (fun a' w'=>∃ (vv:Value) (n:Nat) (u3 u4 u5 u8 u11 u12 u13 u14 u15 u16 u17 u18 u19 u20 u21 u22 u23 u24 u25 u26 u27 u28 u29 u30 u31 u32 u33 u34 u35 u36 u37 u38 u39 u40 u41 u42 u43 u44 u45:Value),a'={ tmps:=#[.slice ao 60 cap,.int .i64 lo,.int .i64 hi,u3,u4,u5,.slice none 0 0,.int .i64 0,u8,vv,.int .i64 n,u11,u12,u13,u14,u15,u16,u17,u18,u19,u20,u21,u22,u23,u24,u25,u26,u27,u28,u29,u30,u31,u32,u33,u34,u35,u36,u37,u38,u39,u40,u41,u42,u43,u44,u45],defers:=[] }∧Hid (AtNext zs lo hi w.heap.size w n vv w')) (fun a' _=>hi - (intOf (a'.tmps.getD 10 undef)).toNat) rfl ?_ ?_
    · intro hpass
      go_wp2_with (go_at_call 134;refine cP.mono ?_;rintro e w' ⟨rfl,rfl⟩)
      go_step3
      rename_i hK0
      refine hK0 _ _ (hpass _ _ ?_)
      exact ⟨_,lo,_,_,_,_,_,_,_,_,_,_,_,_,_,_,_,_,_,_,_,_,_,_,_,_,_,_,_,_,_,_,_,_,_,_,_,_,_,_,_,rfl,HJ0⟩
    · rintro a' w' ⟨vv,n,u3,u4,u5,u8,u11,u12,u13,u14,u15,u16,u17,u18,u19,u20,u21,u22,u23,u24,u25,u26,u27,u28,u29,u30,u31,u32,u33,u34,u35,u36,u37,u38,u39,u40,u41,u42,u43,u44,u45,rfl,HJ⟩
      clear HJ0 cP
      obtain ⟨acc,j1,j2,j3,j4,j5,j6⟩:=HJ.out
      have HBw:=Lib.hid (HB.out.later j6)
      have HG:=Lib.hid j4
      have HO:=Lib.hid j5
      have HW:=Lib.hid j6
      have HS:Hid (w.heap.size≤w'.heap.size+1):=Lib.hid (by have:=j6.size;omega)
      clear HJ j4 j5 j6
      go_wp2_with fail
      refine (seek_any ao cap zs false n hi w' HBw.out j2 h480).mono ?_
      rintro e w'' ⟨⟨m,m1,m2,rfl,m3,m4⟩,rfl⟩
      have HM3:=Lib.hid m3
      have HM4:=Lib.hid m4
      clear m3 m4
      have HGM:Hid (acc ++ gaps (downs zs) m m (hi - m)=gaps (downs zs) lo lo (hi - lo)):=Lib.hid (by
        have h:=HG.out
        rw [gaps_skips (m - n) (by omega) (fun i h1 h2=>by unfold downs;rw [HM3.out i h1 (by omega)];rfl)] at h
        rwa [show n+(m - n)=m by omega] at h)
      by_cases heq:m=hi
      · have HF:Hid (acc.map cV=(downOut zs lo hi).map cV):=Lib.hid (by
          rw [HV.out,← HGM.out,heq,Nat.sub_self]
          unfold gaps
          rw [if_neg (Nat.lt_irrefl hi),List.append_nil])
        have hq:((m:Int) == (hi:Int))=true:=by simp [heq]
        clear heq
        go_wp2_with fail
        simp only [Exit.jump]
        go_ret2
        exact ⟨_,(downOut zs lo hi).map cV,by rw [HE.out];rfl,by rw [← HF.out];exact owns_vals HO.out (by omega),stands_cV (fun p h=>(down_bound p h).1),HW.out⟩
      · have hq:((m:Int) == (hi:Int))=false:=by simp;omega
        have hlt:m < hi:=by omega
        clear heq
        go_wp2_with fail
        refine (seek_any ao cap zs true m hi w' HBw.out m2 h480).mono ?_
        rintro e w'' ⟨⟨k,k1,k2,rfl,k3,k4⟩,rfl⟩
        have HK3:=Lib.hid k3
        have HK4:=Lib.hid k4
        have hgt:m < k:=by
          rcases Nat.lt_or_ge m k with h | h
          · exact h
          · have e:k=m:=by omega
            subst e
            have h1:=HM4.out hlt
            rw [k4 hlt] at h1
            exact absurd h1 (by decide)
        clear k3 k4
        have HG2:Hid (acc ++ [(m,k - m)] ++ gaps (downs zs) k k (hi - k)=gaps (downs zs) lo lo (hi - lo)):=Lib.hid (by
          have h:=HGM.out
          rw [gaps_grows (k - m) (by omega) (fun i h1 h2=>by unfold downs;rw [HK3.out i h1 (by omega)];rfl),show m+(k - m)=k by omega,gaps_cut k2 (fun h=>by unfold downs;rw [HK4.out h];rfl) hgt] at h
          rw [List.append_assoc]
          exact h)
        have HE1:Hid (((k - m:Nat):Int)=(k:Int) - (m:Int)):=Lib.hid (by omega)
        have cO:=OfF_any m (k - m) w' (by omega) (by omega)
        rw [HE1.out] at cO
        clear hq
        go_wp2_with (first | (go_at_call 62;refine cO.mono ?_;rintro e w'' ⟨rfl,rfl⟩) | (at_builtin;refine wp_append_one elemComplex rfl (.tmp 42) (.tmp 44) rfl w.heap.size acc.length _ _ rfl (HO.out.alloc _) ⟨w'.heap.size,0,none⟩ 1 _ rfl (one_cell_new _ _ _) rfl rfl (by omega) (by simpa using HS.out) ?_;intro v1 w1 hown1 hb1;have HO1:=Lib.hid hown1;have HB1:=Lib.hid hb1;clear hown1 hb1))
        go_step3
        refine ⟨rfl,⟨⟨v1,k,_,_,_,_,_,_,_,_,_,_,_,_,_,_,_,_,_,_,_,_,_,_,_,_,_,_,_,_,_,_,_,_,_,_,_,_,_,_,_,rfl,Lib.hid ⟨acc ++ [(m,k - m)],by omega,k2,by rw [List.length_append];simp;omega,HG2.out,?_,(HW.out.alloc (by have:=HW.out.size;exact this) _).trans HB1.out⟩⟩,by simp [intOf];omega⟩⟩
        rw [List.length_append,List.map_append]
        have h:=HO1.out
        rw [← HE1.out] at h
        exact h
  · have hE:=down_errs len p q hok
    have HV:Hid (downOut zs p q=[]):=Lib.hid (by unfold downOut;rw [hl,if_neg (by omega)])
    clear hB hl hok hlen
    rcases hE with hE | hE
    all_goals
      rw [hE] at cP
      have HE:=Lib.hid hE
      clear hE
      go_enter Tryz.func182,Tryz.ntmps182
      go_wp2_with fail
      go_step3
      go_wp2_with (go_at_call 134;refine cP.mono ?_;rintro e w' ⟨rfl,rfl⟩)
      rw [Exit.noGoto_ret]
      go_ret2
      exact ⟨_,[],by rw [HE.out];rfl,FreshV.nil _ _,by rw [HV.out];exact stands_nil,Below.refl _ _⟩
end Go.Proofs.YtcefmpnijjcekaaGreatDoor
namespace Go.Proofs.YtcefmpnijjcekaaGreatDoor
open Go.RowKit
theorem grown_row (w:World) (n:Nat) (h0:0 < n) (hn:n≤100000):(w.drew.alloc (.cells (Builtin.zeroCells (Value.int .i64 0).cells n ++ Builtin.zeroCells (Value.int .i64 0).cells (grownCap w n 0 3 - n)) 3)).ownsRow w.heap.size 3 1 (.slice (some ⟨w.heap.size,0,none⟩) 0 (grownCap w n 0 3)) 0 []:=by
  have hge:=grownCap_ge w n 0 3
  have hcm:grownCap w n 0 3≤maxLen:=grownCap_le_maxLen w n 0 _ (by unfold maxLen;omega)
  refine ⟨rfl,.inr ⟨w.heap.size,_,_,rfl,Nat.le_refl _,heap_alloc_new w.drew _,Nat.zero_le _,hcm,?_,by simp⟩⟩
  rw [Array.size_append,size_zeroCells,size_zeroCells]
  show n * 1+_ * 1=_
  omega
set_option maxRecDepth 100000 in
set_option maxHeartbeats 1600000 in
theorem Grow_any (n:Nat) (w:World) (hn:n≤100000):Calls Tryz.prog 133 #[.slice none 0 0,.int .i64 n] w fun e w'=>∃ v,e=.returned v∧w'.ownsRow w.heap.size 3 1 v 0 []∧Below w.heap.size w w':=by
  by_cases h0:n=0
  · subst h0
    go_enter Tryz.func133,Tryz.ntmps133
    go_wp2_with fail
    go_ret
    exact ⟨_,rfl,owns_nil_r _ _ _ _,Below.refl _ _⟩
  · obtain ⟨i0,hi0,hz0,hz1,hz2⟩:=info_parts elemI.2.1
    have hr:=fun ty=>Lib.run_append_nil_zeros (P:=Tryz.prog) w 31 3 ty 3 i0 (.int .i64 0) .i64 .i64 Tryz.underlying31 Tryz.underlying3 hi0 hz0 n (by omega) (by rw [hz1];decide) (by omega) (by rw [hz2];omega)
    have HO:=Lib.hid (grown_row w n (by omega) hn)
    have HG:Hid (0≤grownCap w n 0 3):=Lib.hid (Nat.zero_le _)
    have HR:=Lib.hid hr
    have n1:¬ ((n:Int) < 0):=by omega
    have n2:wrap64 (0 - 0)=0:=by unfold wrap64;omega
    have n3:wrap64 ((n:Int) - 0)=(n:Int):=by unfold wrap64;omega
    have n4:(0:Int) < (n:Int):=by omega
    clear hr hi0 hz0 hz1 hz2 h0
    go_enter Tryz.func133,Tryz.ntmps133
    go_wp2_with (at_builtin;refine Lib.wpList_append_run _ rfl (.tmp 20) (.tmp 21) _ _ rfl _ _ rfl rfl _ _ (HR.out _) ?_)
    go_ret
    exact ⟨_,rfl,HO.out,(((Below.refl _ _).drew).alloc (Nat.le_refl _) _)⟩
def ListsIn (w:World) (b off:Nat) (ls:List (List Int)):Prop:=
  ∀ j zs,ls[j]?=some zs→∃ a l c,w.cell? ⟨b,off+j,none⟩=some (.slice a l c)∧IArg w a l c zs
theorem ListsIn.later {w wx:World} {b off:Nat} {ls:List (List Int)} (h:ListsIn w b off ls) (hb:Below w.heap.size w wx):ListsIn wx b off ls:=fun j zs hj=>by
  obtain ⟨a,l,c,h1,h2⟩:=h j zs hj
  exact ⟨a,l,c,cell_later hb h1,h2.later hb⟩
def lenL (ls:List (List Int)):Nat:=(ls.map List.length).sum
theorem len_take {ls:List (List Int)} {i:Nat} {zs:List Int} (h:ls[i]?=some zs):lenL (ls.take (i+1))=lenL (ls.take i)+zs.length:=by
  unfold lenL
  rw [List.take_add_one,h]
  simp
theorem len_le (ls:List (List Int)) (i:Nat):lenL (ls.take i)≤lenL ls:=by
  conv=>rhs;rw [← List.take_append_drop i ls]
  unfold lenL
  rw [List.map_append,List.sum_append]
  omega
set_option maxRecDepth 100000 in
set_option maxHeartbeats 3200000 in
theorem Concat_any (b off n cap:Nat) (ls:List (List Int)) (w:World) (hn:ls.length=n) (hL:ListsIn w b off ls) (h100:lenL ls≤10000) (hn100:n≤100):Calls Tryz.prog 78 #[.slice (some ⟨b,off,none⟩) n cap] w fun e w'=>∃ v,e=.returned v∧w'.ownsRow w.heap.size 3 1 v (lenL ls) (ints ls.flatten)∧Below w.heap.size w w':=by
  have HL:=Lib.hid hL
  have HN:=Lib.hid hn
  have H100:=Lib.hid h100
  clear hL h100
  go_enter Tryz.func78,Tryz.ntmps78
  go_wp2_with fail
  go_loopw [3,11] (fun sv iv wr=>∃ i:Nat,iv=.int .i64 (i:Int)∧sv=.int .i64 ((lenL (ls.take i):Nat):Int)∧i≤n∧Hid (w=wr)) (fun _ iv _=>n - (intOf iv).toNat)
  case atStart=>exact ⟨0,rfl,rfl,Nat.zero_le _,Lib.hid rfl⟩
  case round=>
    obtain ⟨i,rfl,rfl,hi,HW⟩:=hrel
    by_cases hlt:i < n
    · obtain ⟨zs,hzs⟩:∃ zs,ls[i]?=some zs:=⟨_,List.getElem?_eq_getElem (by rw [hn];exact hlt)⟩
      obtain ⟨a,l,c,d1,d2⟩:=HL.out i zs hzs
      have d1:wr.cell? ⟨b,off+i,none⟩=some (.slice a l c):=by rw [← HW.out];exact d1
      have hs:=len_take hzs
      have hle:=len_le ls (i+1)
      have h100:=H100.out
      rw [d2.len] at hs
      have HS:=Lib.hid hs
      have i1:(i:Int) < (n:Int):=by omega
      have s1:wrap64 (((lenL (ls.take i):Nat):Int)+(l:Int))=((lenL (ls.take (i+1)):Nat):Int):=by unfold wrap64;omega
      have s2:¬ (((lenL (ls.take (i+1)):Nat):Int) < 0):=by omega
      clear d2 hs hle h100 hzs
      go_wp2_with fail
      go_roundw
      case rel=>exact ⟨i+1,by go_num,by rw [s1],by omega,HW⟩
      case measure=>simp [intOf];omega
    · obtain rfl:i=n:=by omega
      have HT:Hid (lenL (ls.take i)=lenL ls):=Lib.hid (by rw [← hn,List.take_length])
      have HT2:Hid ((ints (ls.take i).flatten)=ints ls.flatten):=Lib.hid (by rw [← hn,List.take_length])
      have cG:=Grow_any (lenL ls) wr (by have:=H100.out;omega)
      rw [← HW.out] at cG
      have HW2:=HW.out
      subst HW2
      rw [HT.out]
      go_wp2_with (go_at_call 133;refine cG.mono ?_;rintro e w2 ⟨v,rfl,ho,hb⟩;have HO:=Lib.hid ho;have HB:=Lib.hid hb;clear ho hb)
      go_loopw [6,27] (fun sv iv wr=>∃ k:Nat,iv=.int .i64 (k:Int)∧k≤i∧Hid (wr.ownsRow w.heap.size 3 1 sv (lenL (ls.take k)) (ints (ls.take k).flatten))∧Hid (Below w.heap.size w wr)) (fun _ iv _=>i - (intOf iv).toNat)
      case atStart=>exact ⟨0,rfl,Nat.zero_le _,HO,HB⟩
      case round=>
        obtain ⟨k,rfl,hk,HR,HBR⟩:=hrel
        by_cases hlt:k < i
        · obtain ⟨zs,hzs⟩:∃ zs,ls[k]?=some zs:=⟨_,List.getElem?_eq_getElem (by rw [hn];exact hlt)⟩
          obtain ⟨a,l,c,d1,d2⟩:=(HL.out.later HBR.out) k zs hzs
          have hs:=len_take hzs
          have hle:=len_le ls (k+1)
          have h100:=H100.out
          have hlen:=d2.len
          rw [hlen] at hs
          have HS:=Lib.hid hs
          have HF:Hid (ints (ls.take (k+1)).flatten=ints (ls.take k).flatten ++ ints zs):=Lib.hid (by rw [List.take_add_one,hzs,List.flatten_append,ints_append];simp)
          have k1:(k:Int) < (i:Int):=by omega
          have HNum:Hid (lenL (ls.take k)+l≤100000):=Lib.hid (by omega)
          have HSZ:=Lib.hid HBR.out.size
          have HLn:=Lib.hid hlen
          cases a with
          | none=>
            obtain ⟨rfl,rfl⟩:=d2.2.2.1 rfl
            have HZ:Hid (zs=[]):=Lib.hid (List.length_eq_zero_iff.1 hlen)
            clear d2 hs hle h100 hzs hlen
            go_wp2_with (at_builtin;refine wp_append_nothing elemIR rfl (.tmp 31) (.tmp 32) rfl w.heap.size (lenL (ls.take k)) _ _ rfl HR.out rfl ?_)
            go_roundw
            case rel=>exact ⟨k+1,by go_num,by omega,Lib.hid (by rw [HF.out,HS.out,HZ.out];simpa [ints] using HR.out),HBR⟩
            case measure=>simp [intOf];omega
          | some ad=>
            have HNW:=Lib.hid d2.news
            clear d2 hs hle h100 hzs hlen
            go_wp2_with (at_builtin;refine wp_append_r elemIR rfl (.tmp 31) (.tmp 32) rfl w.heap.size (lenL (ls.take k)) _ _ rfl HR.out ad l c (ints zs) (by rw [ints_length,HLn.out,Nat.mul_one]) rfl HNW.out (ints_one zs) HNum.out HSZ.out ?_;intro v1 w1 hown1 hg1 hb1;have HO1:=Lib.hid hown1;have HB1:=Lib.hid (HBR.out.trans hb1);clear hown1 hg1 hb1)
            go_roundw
            case rel=>exact ⟨k+1,by go_num,by omega,Lib.hid (by rw [HF.out,HS.out];exact HO1.out),HB1⟩
            case measure=>simp [intOf];omega
        · obtain rfl:k=i:=by omega
          have HR2:Hid (wr.ownsRow w.heap.size 3 1 u6 (lenL ls) (ints ls.flatten)):=Lib.hid (by rw [← HT.out,← HT2.out];exact HR.out)
          go_wp2_with fail
          go_ret
          exact ⟨_,rfl,HR2.out,HBR.out⟩
end Go.Proofs.YtcefmpnijjcekaaGreatDoor
namespace Go.Proofs.YtcefmpnijjcekaaGreatDoor
open Go.RowKit
def okRuns (rs:List (Nat × Nat)):Prop:=∀ r ∈ rs,1≤r.2∧r.1+r.2≤480
set_option maxRecDepth 100000 in
set_option maxHeartbeats 1600000 in
theorem markAll_any (ao:Option Addr) (cap:Nat) (zs:List Int) (up:Bool) (ro:Option Addr) (m rcap:Nat) (xs:List Value) (rs:List (Nat × Nat)) (w:World) (hA:Arg w ao 60 cap zs) (hR:Vals w ro m xs) (hS:Stands xs rs) (hok:okRuns rs) (hm:m≤100000) :
    Calls Tryz.prog 59 #[.slice ao 60 cap,.bool up,.slice ro m rcap] w (Handed w.heap.size w (markP zs up rs) 0):=by
  obtain ⟨hB,_,hcap,hlen⟩:=hA
  have hml:rs.length=m:=by rw [← hS.1,hR.1]
  have cN:=New_own w
  have HL:=Lib.hid hB.1
  have HB:=Lib.hid hB
  have HR:=Lib.hid hR
  have HS:=Lib.hid hS
  have HOK:=Lib.hid hok
  have HZ:Hid (lay (List.replicate 60 0) 0 zs=zs):=Lib.hid (by
    rw [lay_eq _ _ _ (by rw [HL.out];decide),HL.out]
    simp)
  have HML:=Lib.hid hml
  have H0:Hid (markP zs up (rs.take 0)=zs):=Lib.hid (markP_nil up hB.1 hB.2.2.1)
  clear hB hR hS hok hml
  go_enter Tryz.func59,Tryz.ntmps59
  go_wp2_with (first | (go_at_call 60;refine cN.mono ?_;rintro e w1 ⟨rfl,hO1⟩;have HO:=Lib.hid hO1;have HBW:=Lib.hid (HB.out.later hO1.2.2.2.2);clear hO1) | (refine wp_copy rfl (.tmp 19) (.tmp 20) 44 44 rfl _ _ rfl rfl _ (own_copy_bytes HO.out (by decide) ao 60 cap zs HBW.out (by decide) _) ?_;rintro v2 w2 ⟨rfl,hO2⟩;rw [HZ.out] at hO2;have HO2:=Lib.hid hO2;clear hO2))
  have HM2:Hid (Own w.heap.size w w.heap.size (markP zs up (rs.take 0)) w2):=Lib.hid (by rw [H0.out];exact HO2.out)
  clear cN
  go_loopw [24] (fun iv wr=>∃ i:Nat,i≤m∧iv=.int .i64 i∧Hid (Own w.heap.size w w.heap.size (markP zs up (rs.take i)) wr)) (fun iv _=>m - (intOf iv).toNat)
  case atStart=>exact ⟨0,Nat.zero_le _,rfl,HM2⟩
  case round=>
    obtain ⟨i,hi,rfl,HM⟩:=hrel
    by_cases hlt:i < m
    · have hbw:Below w.heap.size w wr:=HM.out.2.2.2.2
      obtain ⟨⟨a,b⟩,hr⟩:∃ r,rs[i]?=some r:=⟨_,List.getElem?_eq_getElem (by rw [HML.out];exact hlt)⟩
      obtain ⟨hb1,hab⟩:=HOK.out _ (List.mem_of_getElem? hr)
      have hb1:1≤b:=hb1
      have hab:a+b≤480:=hab
      obtain ⟨v,hv⟩:∃ v,xs[i]?=some v:=⟨_,List.getElem?_eq_getElem (by rw [HR.out.1];exact hlt)⟩
      obtain ⟨x,y,rfl,hx,hy⟩:=HS.out.2 i v (a,b) hv hr
      obtain ⟨rb,roff,rfl,hrc⟩:=HR.out.2.2.resolve_left (by omega)
      have hcell:=cell_later hbw (hrc i _ hv)
      have HT:Hid (rs.take (i+1)=rs.take i ++ [(a,b)]):=Lib.hid (by rw [List.take_add_one,hr];rfl)
      have HN:Hid (Own w.heap.size w w.heap.size (markP zs up (rs.take i ++ [(a,0)])) wr):=Lib.hid (by rw [markP_zero];exact HM.out)
      have cP:=Parts_any x y a b wr hx hy (by omega) (by omega) (by omega)
      have i2:(i:Int) < m:=by omega
      clear HM hbw hr hv hx hy hrc HM2
      go_wp2_with (go_at_call 98;refine cP.mono ?_;rintro e w' ⟨rfl,rfl⟩)
      clear cP hcell
      go_loopw [37] (fun jv wr=>∃ j:Nat,j≤b∧jv=.int .i64 j∧Hid (Own w.heap.size w w.heap.size (markP zs up (rs.take i ++ [(a,j)])) wr)) (fun jv _=>b - (intOf jv).toNat)
      case atStart=>exact ⟨0,Nat.zero_le _,rfl,HN⟩
      case round=>
        obtain ⟨j,hj,rfl,HJ⟩:=hrel
        by_cases hlt2:j < b
        · have cS:=set_any w.heap.size w w.heap.size _ (a+j) up wr HJ.out (markP_length _ _ _) (by omega)
          rw [show ((a+j:Nat):Int)=(a:Int)+(j:Int) by omega] at cS
          clear HJ
          go_wp2_with (go_at_call 99;refine cS.mono ?_;rintro e w3 ⟨M,rfl,hO3,hl3,hf3⟩;have HJ3:Hid (Own w.heap.size w w.heap.size (markP zs up (rs.take i ++ [(a,j+1)])) w3):=Lib.hid (by rw [← markP_step hl3 hO3.1 hf3];exact hO3);clear hO3 hl3 hf3)
          go_roundw
          case rel=>exact ⟨j+1,by omega,by go_num,HJ3⟩
          case measure=>simp [intOf];omega
        · have hjb:j=b:=by omega
          have HB3:Hid (Own w.heap.size w w.heap.size (markP zs up (rs.take (i+1))) wr):=Lib.hid (by rw [HT.out,← hjb];exact HJ.out)
          clear HJ
          subst hjb
          go_wp2_with fail
          go_roundw
          case rel=>exact ⟨i+1,by omega,by go_num,HB3⟩
          case measure=>simp [intOf];omega
    · have him:i=m:=by omega
      have HM3:Hid (Own w.heap.size w w.heap.size (markP zs up rs) wr):=Lib.hid (by have h:=HM.out;rwa [List.take_of_length_le (by rw [HML.out];omega)] at h)
      have HF:=Lib.hid (HM3.out.fresh (cap:=60) (by rw [markP_length];decide) (by rw [markP_length];decide))
      have HBl:=Lib.hid HM3.out.2.2.2.2
      clear HM HM2
      subst him
      go_wp2_with fail
      go_ret2
      have hf:=HF.out
      rw [markP_length] at hf
      exact ⟨_,rfl,hf,HBl.out⟩
def okNums (l:List Int):Prop:=∀ x ∈ l,0≤x∧x < 480
theorem okRuns_of {l:List Int} (h:okNums l):okRuns (runsOf l):=fun r hr=>by
  unfold runsOf at hr
  obtain ⟨x,hx,rfl⟩:=List.mem_map.1 hr
  obtain ⟨hx,h0⟩:=List.mem_filter.1 hx
  have h1:=h x hx
  exact ⟨Nat.le_refl _,by show x.toNat+1≤480;omega⟩
theorem okRuns_pairs {rs:List (Nat × Nat)} (h:okRuns rs):∀ p ∈ rs,p.1+p.2≤480:=fun p hp=>(h p hp).2
theorem runsOf_length (l:List Int):(runsOf l).length≤l.length:=by
  unfold runsOf
  rw [List.length_map]
  exact List.length_filter_le _ _
def RunsRow (base:Nat) (w0:World) (v:Value) (rs:List (Nat × Nat)) (wr:World):Prop:=
  wr.ownsRow base 97 1 v rs.length (rs.map cV)∧Below base w0 wr
set_option maxRecDepth 100000 in
set_option maxHeartbeats 1600000 in
theorem imark_any (ao:Option Addr) (cap:Nat) (zs:List Int) (up:Bool) (b off n lc:Nat) (ls:List (List Int)) (w:World) (hA:Arg w ao 60 cap zs) (hn:ls.length=n) (hL:ListsIn w b off ls) (h100:lenL ls≤10000) (hn100:n≤100) (hok:okNums ls.flatten) :
    Calls Tryz.prog 34 #[.slice ao 60 cap,.bool up,.slice (some ⟨b,off,none⟩) n lc] w (Gives w.heap.size w (markL zs up ls.flatten)):=by
  have cC:=Concat_any b off n lc ls w hn hL h100 hn100
  have hlen:ls.flatten.length=lenL ls:=by unfold lenL;rw [List.length_flatten]
  obtain ⟨l,hl⟩:∃ l,ls.flatten=l:=⟨_,rfl⟩
  obtain ⟨N,hN⟩:∃ N,lenL ls=N:=⟨_,rfl⟩
  rw [hl,hN] at cC
  rw [hl] at hok ⊢
  rw [hl,hN] at hlen
  rw [hN] at h100
  have HA:=Lib.hid hA
  have HOK:=Lib.hid hok
  have HLN:=Lib.hid hlen
  have HI:Hid (∀ z ∈ l,I64 z):=Lib.hid (fun z hz=>by have:=hok z hz;unfold I64;omega)
  clear hA hn hL hl hN hok hlen hn100
  go_enter Tryz.func34,Tryz.ntmps34
  go_wp2_with (go_at_call 78;refine cC.mono ?_;rintro e w1 ⟨v,rfl,ho,hb⟩;obtain ⟨co,cc,rfl,hI1,_⟩:=fresh_of_ints ho HI.out (by omega);rw [HLN.out] at hI1 ⊢;have HI1:=Lib.hid hI1;have HB1:=Lib.hid hb;clear ho hb hI1)
  clear cC
  have HR0:Hid (RunsRow w1.heap.size w1 (.slice none 0 0) (runsOf (l.take 0)) w1):=Lib.hid ⟨World.ownsRow_nil w1 w1.heap.size 97 1,Below.refl _ _⟩
  go_loopw [7,13] (fun vv iv wr=>∃ i:Nat,i≤N∧iv=.int .i64 i∧Hid (RunsRow w1.heap.size w1 vv (runsOf (l.take i)) wr)) (fun _ iv _=>N - (intOf iv).toNat)
  case atStart=>exact ⟨0,Nat.zero_le _,rfl,HR0⟩
  case round=>
    obtain ⟨i,hi,rfl,HR⟩:=hrel
    by_cases hlt:i < N
    · obtain ⟨cb,coff,x,rfl,hx,hcell,hx64⟩:=HI1.out.at hlt
      have hx0:=HOK.out x (List.mem_of_getElem? hx)
      have hcell:=cell_later HR.out.2 hcell
      have HT:Hid (runsOf (l.take (i+1))=if x=0 then runsOf (l.take i) else runsOf (l.take i) ++ [(x.toNat,1)]):=Lib.hid (by
        rw [List.take_add_one,hx]
        exact runsOf_snoc _ _)
      have hlen2:(runsOf (l.take i)).length≤10000:=by
        have:=runsOf_length (l.take i)
        rw [List.length_take] at this
        omega
      obtain ⟨acc,hacc⟩:∃ acc,runsOf (l.take i)=acc:=⟨_,rfl⟩
      rw [hacc] at HR hlen2 HT
      have i2:(i:Int) < N:=by omega
      clear hx hacc HR0
      obtain ⟨ho,hbw⟩:=HR.out
      have HO:=Lib.hid ho
      have HW:=Lib.hid hbw
      have HS:Hid (w1.heap.size≤wr.heap.size+1):=Lib.hid (by have:=hbw.size;omega)
      clear ho hbw HR
      by_cases h0:x=0
      · have HE:Hid (RunsRow w1.heap.size w1 _ (runsOf (l.take (i+1))) wr):=Lib.hid (by rw [HT.out,if_pos h0];exact ⟨HO.out,HW.out⟩)
        subst h0
        go_wp2_with fail
        go_roundw
        case rel=>exact ⟨i+1,by omega,by go_num,HE⟩
        case measure=>simp [intOf];omega
      · have hne:(x != 0)=true:=by simpa using h0
        have HE:Hid (∀ v1 w1',w1'.ownsRow w1.heap.size 97 1 v1 (acc.length+1) (acc.map cV ++ [cV (x.toNat,1)])→Below w1.heap.size w1 w1'→RunsRow w1.heap.size w1 v1 (runsOf (l.take (i+1))) w1'):=Lib.hid (fun v1 w1' h1 h2=>by
          rw [HT.out,if_neg h0]
          exact ⟨by rw [List.length_append,List.map_append];exact h1,h2⟩)
        have cO:=OfF_any x.toNat 1 wr (by omega) (by omega)
        rw [show ((x.toNat:Nat):Int)=x by omega] at cO
        have HX:Hid (cV (x.toNat,1)=.complex .f64 (floatOfInt .f64 x) (floatOfInt .f64 1)):=Lib.hid (by unfold cV;rw [show (((x.toNat,1):Nat × Nat).1:Int)=x from by show ((x.toNat:Nat):Int)=x;omega];rfl)
        clear h0 HT
        go_wp2_with (first | (go_at_call 62;refine cO.mono ?_;rintro e w'' ⟨rfl,rfl⟩) | (go_at_call 61;refine (mustC_any _ _).mono ?_;rintro e w'' ⟨rfl,rfl⟩) | (at_builtin;refine wp_append_one elemComplex rfl (.tmp 19) (.tmp 25) rfl w1.heap.size acc.length _ _ rfl (HO.out.alloc _) ⟨wr.heap.size,0,none⟩ 1 _ rfl (one_cell_new _ _ _) rfl rfl (by omega) (by simpa using HS.out) ?_;intro v1 w1' hown1 hb1;have HO1:=Lib.hid hown1;have HB2:=Lib.hid hb1;clear hown1 hb1))
        go_roundw
        case rel=>exact ⟨i+1,by omega,by go_num,Lib.hid (HE.out _ _ (by rw [HX.out];exact HO1.out) ((HW.out.alloc (by have:=HW.out.size;exact this) _).trans HB2.out))⟩
        case measure=>simp [intOf];omega
    · have hit:i=N:=by omega
      subst hit
      have hfull:l.take i=l:=List.take_of_length_le (by rw [HLN.out];exact Nat.le_refl _)
      have hR:=HR.out
      rw [hfull] at hR
      have hrl:(runsOf l).length≤10000:=by have:=runsOf_length l;have:=HLN.out;omega
      obtain ⟨ro,rcap,rfl,hV,hrc,_⟩:=owns_vals hR.1 (by omega)
      have hml:((runsOf l).map cV).length=(runsOf l).length:=List.length_map _
      rw [hml] at hV
      have HBW:Hid (Below w.heap.size w wr):=Lib.hid (HB1.out.trans (hR.2.mono HB1.out.size))
      have HM:Hid (Calls Tryz.prog 59 #[.slice ao 60 cap,.bool up,.slice ro (runsOf l).length rcap] wr (Handed wr.heap.size wr (markL zs up l) 0)):=Lib.hid (markAll_any ao cap zs up ro _ rcap _ (runsOf l) wr (HA.out.later HBW.out) hV (stands_cV (okRuns_pairs (okRuns_of HOK.out))) (okRuns_of HOK.out) (by omega))
      rw [hml]
      obtain ⟨M,hM⟩:∃ M,(runsOf l).length=M:=⟨_,rfl⟩
      rw [hM] at HM ⊢
      clear hR hV hrc hml hM hfull HR HR0 hrl
      go_wp2_with (first | (go_at_call 59;refine HM.out.mono ?_;rintro e w3 ⟨v3,rfl,hf3,hb3⟩;have HF3:=Lib.hid hf3;have HB3:=Lib.hid (HBW.out.trans (hb3.mono HBW.out.size));clear hf3 hb3) | (go_at_call 57;refine (mustB_any _ _).mono ?_;rintro e w'' ⟨rfl,rfl⟩))
      go_ret
      exact ⟨v3,rfl,HF3.out.mono HBW.out.size,HB3.out⟩
end Go.Proofs.YtcefmpnijjcekaaGreatDoor
namespace Go.Proofs.YtcefmpnijjcekaaGreatDoor
open Go.RowKit
/-! Which gap is chosen -/
def gapErr (len:Nat) (n lo hi:Int):Int:=if downErr len lo hi≠0 then downErr len lo hi else if n < 1∨480 < n then 1 else 0
end Go.Proofs.YtcefmpnijjcekaaGreatDoor
namespace Go.Proofs.YtcefmpnijjcekaaGreatDoor
def tighter (n:Nat) (best:Option (Nat × Nat)) (p:Nat × Nat):Option (Nat × Nat):=
  match best with
  | none=>if n≤p.2 then some p else none
  | some b=>if n≤p.2∧p.2 < b.2 then some p else some b
def tightGap (l:List (Nat × Nat)) (n:Nat):Option (Nat × Nat):=l.foldl (tighter n) none
def pickErr (E:Int) (o:Option (Nat × Nat)):Int:=if E=0 then (if o=none then 6 else 0) else E
def pickOut (E:Int) (o:Option (Nat × Nat)) (n:Nat):Nat × Nat:=
  if E=0 then (match o with | some p=>(p.1,n) | none=>(0,0)) else (0,0)
end Go.Proofs.YtcefmpnijjcekaaGreatDoor
namespace Go.Proofs.YtcefmpnijjcekaaGreatDoor
open Go.RowKit
def HandedRun (base:Nat) (w0:World) (p:Nat × Nat) (err:Int) (e:Ending) (w':World):Prop:=
  ∃ x y,e=.returned (.tuple #[.complex .f64 x y,.int .i64 err])∧FI x (p.1:Int)∧FI y (p.2:Int)∧Below base w0 w'
theorem gap_ok {len:Nat} {n lo hi:Int} (h:gapErr len n lo hi=0):1≤n∧n≤480:=by
  unfold gapErr at h
  by_cases h1:downErr len lo hi=0
  · rw [if_neg (by simp [h1])] at h
    by_cases h2:n < 1∨480 < n
    · rw [if_pos h2] at h;exact absurd h (by decide)
    · omega
  · rw [if_pos h1] at h;exact absurd h h1
end Go.Proofs.YtcefmpnijjcekaaGreatDoor
namespace Go.Proofs.YtcefmpnijjcekaaGreatDoor
open Go.RowKit
def Gp:Type:={ z:(Nat × Nat) × (Nat × Nat) // FI z.1.1 (z.2.1:Int)∧FI z.1.2 (z.2.2:Int)∧z.2.1+z.2.2≤480∧(1≤z.2.2∨z=((0,0),(0,0))) }
def mkG (a b:Nat) (p:Nat × Nat) (ha:FI a (p.1:Int)) (hb:FI b (p.2:Int)) (h:p.1+p.2≤480) (h1:1≤p.2):Gp:=⟨((a,b),p),ha,hb,h,Or.inl h1⟩
def zeroG:Gp:=⟨((0,0),(0,0)),fi_zero,fi_zero,by decide,Or.inr rfl⟩
instance:Inhabited Gp:=⟨zeroG⟩
def encG (z:Gp):Value:=.complex .f64 z.1.1.1 z.1.1.2
def numG (z:Gp):Nat × Nat:=z.1.2
theorem gp_cases (z:Gp):(1≤(numG z).2∨z=zeroG):=by
  obtain ⟨z,h1,h2,h3,h4⟩:=z
  rcases h4 with h | h
  · exact Or.inl h
  · exact Or.inr (Subtype.ext h)
theorem gp_bound (z:Gp):(numG z).1+(numG z).2≤480:=z.2.2.2.1
theorem gp_fst (z:Gp):FI z.1.1.1 ((numG z).1:Int):=z.2.1
theorem gp_snd (z:Gp):FI z.1.1.2 ((numG z).2:Int):=z.2.2.1
/-! ### 0 is no run -/
set_option maxHeartbeats 400000 in
theorem Sound_zero (w:World) :
    Calls Tryz.prog 153 #[.complex .f64 0 0] w fun e w'=>e=.returned (.bool false)∧w=w':=by
  have c:=Whole_any 0 0 0 0 w fi_zero fi_zero (by decide) (by decide)
  have o1:=fi_ge fi_zero fi_zero (Int.le_refl 0)
  have o2:=fi_lt fi_zero fi_one (by decide)
  go_enter Tryz.func153,Tryz.ntmps153
  go_wp2_with (go_at_call 195;refine c.mono ?_;rintro e w' ⟨rfl,rfl⟩)
  go_ret
  exact ⟨rfl,rfl⟩
set_option maxHeartbeats 400000 in
theorem Parts_zero (w:World) :
    Calls Tryz.prog 98 #[.complex .f64 0 0] w fun e w'=>e=.returned (.tuple #[.int .i64 0,.int .i64 0,.int .i64 2])∧w=w':=by
  have c:=Sound_zero w
  go_enter Tryz.func98,Tryz.ntmps98
  go_wp2_with (go_at_call 153;refine c.mono ?_;rintro e w' ⟨rfl,rfl⟩)
  go_ret3
  exact ⟨rfl,rfl⟩
/-! ### One gap -/
theorem parts_gp (z:Gp) (w:World) :
    Calls Tryz.prog 98 #[encG z] w fun e w'=>(∃ r:Int,e=.returned (.tuple #[.int .i64 (numG z).1,.int .i64 (numG z).2,.int .i64 r]))∧w=w':=by
  rcases gp_cases z with h | h
  · refine (Parts_any _ _ _ _ w (gp_fst z) (gp_snd z) (by omega) (by omega) (by have:=gp_bound z;omega)).mono ?_
    rintro e w' ⟨rfl,rfl⟩
    exact ⟨⟨_,rfl⟩,rfl⟩
  · subst h
    refine (Parts_zero w).mono ?_
    rintro e w' ⟨rfl,rfl⟩
    exact ⟨⟨_,rfl⟩,rfl⟩
set_option maxHeartbeats 400000 in
theorem count_gp (z:Gp) (w:World) :
    Calls Tryz.prog 124 #[encG z] w fun e w'=>e=.returned (.int .i64 (numG z).2)∧w=w':=by
  have c:=parts_gp z w
  generalize ((numG z).1:Int)=a at c
  generalize ((numG z).2:Int)=b at c ⊢
  unfold encG at c ⊢
  go_enter Tryz.func124,Tryz.ntmps124
  go_wp2_with (go_at_call 98;refine c.mono ?_;rintro e w' ⟨⟨r,rfl⟩,rfl⟩)
  go_ret
  exact ⟨rfl,rfl⟩
/-! ### Two gaps -/
def cmpN (a b:Nat):Int:=if a < b then -1 else if b < a then 1 else 0
set_option maxHeartbeats 400000 in
theorem isNaN_any (x:Nat) (a:Int) (w:World) (hx:FI x a) :
    Calls Tryz.prog 186 #[.float .f64 x] w fun e w'=>e=.returned (.bool false)∧w=w':=by
  have o1:=fi_eq hx hx rfl
  clear hx
  go_enter Tryz.func186,Tryz.ntmps186
  go_wp2_with fail
  go_ret
  exact ⟨rfl,rfl⟩
set_option maxHeartbeats 800000 in
theorem Compare_float (x y a b:Nat) (w:World) (hx:FI x (a:Int)) (hy:FI y (b:Int)) :
    Calls Tryz.prog 131 #[.float .f64 x,.float .f64 y] w fun e w'=>e=.returned (.int .i64 (cmpN a b))∧w=w':=by
  have c1:=isNaN_any x a w hx
  have c2:=isNaN_any y b w hy
  unfold cmpN
  rcases Nat.lt_trichotomy a b with h | h | h
  · rw [if_pos h]
    have o1:=fi_lt hx hy (by omega)
    clear hx hy h
    go_enter Tryz.func131,Tryz.ntmps131
    go_wp2_with (go_at_call 186;first | ((with_reducible refine c1.mono ?_);rintro e w' ⟨rfl,rfl⟩) | ((with_reducible refine c2.mono ?_);rintro e w' ⟨rfl,rfl⟩))
    go_ret
    exact ⟨rfl,rfl⟩
  · rw [if_neg (by omega),if_neg (by omega)]
    have o1:=fi_eq hx hy (by omega)
    clear hx hy h
    go_enter Tryz.func131,Tryz.ntmps131
    go_wp2_with (go_at_call 186;first | ((with_reducible refine c1.mono ?_);rintro e w' ⟨rfl,rfl⟩) | ((with_reducible refine c2.mono ?_);rintro e w' ⟨rfl,rfl⟩))
    go_ret
    exact ⟨rfl,rfl⟩
  · rw [if_neg (by omega),if_pos h]
    have o1:=fi_gt hx hy (by omega)
    clear hx hy h
    go_enter Tryz.func131,Tryz.ntmps131
    go_wp2_with (go_at_call 186;first | ((with_reducible refine c1.mono ?_);rintro e w' ⟨rfl,rfl⟩) | ((with_reducible refine c2.mono ?_);rintro e w' ⟨rfl,rfl⟩))
    go_ret
    exact ⟨rfl,rfl⟩
set_option maxHeartbeats 800000 in
theorem Compare_int (a b:Nat) (w:World) :
    Calls Tryz.prog 123 #[.int .i64 a,.int .i64 b] w fun e w'=>e=.returned (.int .i64 (cmpN a b))∧w=w':=by
  unfold cmpN
  rcases Nat.lt_trichotomy a b with h | h | h
  · rw [if_pos h]
    have h1:(a:Int) < (b:Int):=by omega
    clear h
    go_enter Tryz.func123,Tryz.ntmps123
    go_wp2
    all_goals (go_ret;exact ⟨rfl,rfl⟩)
  · rw [if_neg (by omega),if_neg (by omega)]
    subst h
    go_enter Tryz.func123,Tryz.ntmps123
    go_wp2
    all_goals (go_ret;exact ⟨rfl,rfl⟩)
  · rw [if_neg (by omega),if_pos h]
    have h1:(b:Int) < (a:Int):=by omega
    have h2:¬ (a:Int) < (b:Int):=by omega
    clear h
    go_enter Tryz.func123,Tryz.ntmps123
    go_wp2
    all_goals (go_ret;exact ⟨rfl,rfl⟩)
def Cmps (g:Nat) (cf:Gp→Gp→Int):Prop:=∀ (x y:Gp) (w:World),Calls Tryz.prog g #[encG x,encG y] w fun e w'=>e=.returned (.int .i64 (cf x y))∧w=w'
def byFirst (x y:Gp):Int:=cmpN (numG x).1 (numG y).1
def byCount (x y:Gp):Int:=cmpN (numG x).2 (numG y).2
def byRest (x y:Gp):Int:=cmpN (numG y).2 (numG x).2
set_option maxHeartbeats 400000 in
theorem tight_cmp:Cmps 122 byCount:=by
  intro x y w
  have c:=Compare_int (numG x).2 (numG y).2 w
  have c1:=count_gp x w
  have c2:=count_gp y w
  unfold byCount
  generalize cmpN (numG x).2 (numG y).2=r at c ⊢
  unfold encG at c1 c2 ⊢
  go_enter Tryz.func122,Tryz.ntmps122
  go_wp2_with (first | (go_at_call 123;refine c.mono ?_;rintro e w' ⟨rfl,rfl⟩) | (go_at_call 124;first | ((with_reducible refine c1.mono ?_);rintro e w' ⟨rfl,rfl⟩) | ((with_reducible refine c2.mono ?_);rintro e w' ⟨rfl,rfl⟩)))
  go_ret
  exact ⟨rfl,rfl⟩
set_option maxHeartbeats 400000 in
theorem rest_cmp:Cmps 127 byRest:=by
  intro x y w
  have c:=Compare_int (numG y).2 (numG x).2 w
  have c1:=count_gp x w
  have c2:=count_gp y w
  unfold byRest
  generalize cmpN (numG y).2 (numG x).2=r at c ⊢
  unfold encG at c1 c2 ⊢
  go_enter Tryz.func127,Tryz.ntmps127
  go_wp2_with (first | (go_at_call 123;refine c.mono ?_;rintro e w' ⟨rfl,rfl⟩) | (go_at_call 124;first | ((with_reducible refine c1.mono ?_);rintro e w' ⟨rfl,rfl⟩) | ((with_reducible refine c2.mono ?_);rintro e w' ⟨rfl,rfl⟩)))
  go_ret
  exact ⟨rfl,rfl⟩
set_option maxHeartbeats 400000 in
theorem last_cmp:Cmps 130 byFirst:=by
  intro x y w
  have c:=Compare_float _ _ _ _ w (gp_fst x) (gp_fst y)
  unfold byFirst
  generalize cmpN (numG x).1 (numG y).1=r at c ⊢
  unfold encG
  go_enter Tryz.func130,Tryz.ntmps130
  go_wp2_with (go_at_call 131;refine c.mono ?_;rintro e w' ⟨rfl,rfl⟩)
  go_ret
  exact ⟨rfl,rfl⟩
/-! ### A run in two parts -/
set_option maxHeartbeats 400000 in
theorem of_none (a b:Int) (w:World) (hb:b < 1) :
    Calls Tryz.prog 100 #[.int .i64 a,.int .i64 b] w fun e w'=>e=.returned (.complex .f64 0 0)∧w=w':=by
  go_enter Tryz.func100,Tryz.ntmps100
  go_wp2
  go_ret
  exact ⟨rfl,rfl⟩
theorem of_some (a b:Nat):∃ x y,∀ w:World,
    Calls Tryz.prog 100 #[.int .i64 a,.int .i64 b] w fun e w'=>e=.returned (.complex .f64 x y)∧w=w':=by
  by_cases h:1≤b
  · exact ⟨_,_,fun w=>ofF_any a b w h⟩
  · exact ⟨_,_,fun w=>of_none a b w (by omega)⟩
set_option maxHeartbeats 800000 in
theorem Cut_any (x y a b n:Nat) (hx:FI x (a:Int)) (hy:FI y (b:Int)) (hn:1≤n) (hnb:n≤b) (hab:a+b≤480):∃ u v,∀ w:World,
    Calls Tryz.prog 179 #[.complex .f64 x y,.int .i64 n] w fun e w'=>e=.returned (.tuple #[.complex .f64 (floatOfInt .f64 (a:Int)) (floatOfInt .f64 (n:Int)),.complex .f64 u v,.int .i64 0])∧w'=w:=by
  obtain ⟨u,v,hr⟩:=of_some (a+n) (b - n)
  refine ⟨u,v,fun w=>?_⟩
  have cP:=Parts_any x y a b w hx hy (by omega) (by omega) (by omega)
  have c1:=ofF_any a n w hn
  have c2:=hr w
  rw [show ((a+n:Nat):Int)=(a:Int)+(n:Int) by omega,show ((b - n:Nat):Int)=(b:Int) - (n:Int) by omega] at c2
  have h1:¬ (n:Int) < 0:=by omega
  have h2:¬ (b:Int) < (n:Int):=by omega
  have h3:IntKind.i64.wrap ((a:Int)+(n:Int))=(a:Int)+(n:Int):=IntWalk.i64_in _ (by omega)
  have h4:IntKind.i64.wrap ((b:Int) - (n:Int))=(b:Int) - (n:Int):=IntWalk.i64_in _ (by omega)
  clear hx hy hn hnb hab hr
  go_enter Tryz.func179,Tryz.ntmps179
  go_wp2_with (first | (go_at_call 98;refine cP.mono ?_;rintro e w' ⟨rfl,rfl⟩) | (go_at_call 100;first | ((with_reducible refine c1.mono ?_);rintro e w' ⟨rfl,rfl⟩) | ((with_reducible refine c2.mono ?_);rintro e w' ⟨rfl,rfl⟩)))
  go_ret3
  exact ⟨rfl,rfl⟩
/-! ### All gaps -/
set_option maxRecDepth 100000 in
set_option maxHeartbeats 800000 in
theorem cgaps_any (ao:Option Addr) (len cap:Nat) (zs:List Int) (n p q:Int) (w:World) (hA:Arg w ao len cap zs) (hp:-9223372036854775808≤p∧p≤9223372036854775807) (hq:-9223372036854775808≤q∧q≤9223372036854775807) :
    Calls Tryz.prog 125 #[.slice ao len cap,.int .i64 n,.int .i64 p,.int .i64 q] w (HandedRuns w.heap.size w (if gapErr len n p q=0 then downOut zs p q else []) (gapErr len n p q)):=by
  have c:=xDown_any ao len cap zs p q w hA hp hq
  generalize downOut zs p q=l at *
  unfold gapErr
  generalize downErr len p q=E at *
  clear hA hp hq
  by_cases hE:E=0
  · rw [hE] at c
    rw [hE,show (if (0:Int)≠0 then (0:Int) else if n < 1∨480 < n then 1 else 0)=(if n < 1∨480 < n then 1 else 0) from if_neg (by decide)]
    clear hE
    by_cases h1:n < 1
    · rw [if_pos (Or.inl h1),if_neg (show ¬ (1:Int)=0 by decide)]
      go_enter Tryz.func125,Tryz.ntmps125
      go_wp2_with (go_at_call 182;refine c.mono ?_;rintro e w1 ⟨v1,xs,rfl,hf1,hs1,hb1⟩;have HB1:=Lib.hid hb1;clear hf1 hs1 hb1)
      go_ret2
      exact ⟨_,[],rfl,FreshV.nil _ _,stands_nil,HB1.out⟩
    · by_cases h2:480 < n
      · rw [if_pos (Or.inr h2),if_neg (show ¬ (1:Int)=0 by decide)]
        go_enter Tryz.func125,Tryz.ntmps125
        go_wp2_with (go_at_call 182;refine c.mono ?_;rintro e w1 ⟨v1,xs,rfl,hf1,hs1,hb1⟩;have HB1:=Lib.hid hb1;clear hf1 hs1 hb1)
        go_ret2
        exact ⟨_,[],rfl,FreshV.nil _ _,stands_nil,HB1.out⟩
      · rw [if_neg (show ¬ (n < 1∨480 < n) by omega),if_pos rfl]
        go_enter Tryz.func125,Tryz.ntmps125
        go_wp2_with (go_at_call 182;refine c.mono ?_;rintro e w1 ⟨v1,xs,rfl,hf1,hs1,hb1⟩;have HF1:=Lib.hid hf1;have HS1:=Lib.hid hs1;have HB1:=Lib.hid hb1;obtain ⟨ao1,c1,hv1,_,_,_⟩:=hf1;rw [hv1];rw [hv1] at HF1;clear hv1 hs1 hb1)
        go_ret2
        exact ⟨_,xs,rfl,HF1.out,HS1.out,HB1.out⟩
  · rw [if_pos hE,if_neg hE]
    have hne:(E == 0)=false:=by simp;exact hE
    clear hE
    go_enter Tryz.func125,Tryz.ntmps125
    go_wp2_with (go_at_call 182;refine c.mono ?_;rintro e w1 ⟨v1,xs,rfl,hf1,hs1,hb1⟩;have HF1:=Lib.hid hf1;have HS1:=Lib.hid hs1;have HB1:=Lib.hid hb1;obtain ⟨ao1,c1,hv1,_,_,_⟩:=hf1;rw [hv1];rw [hv1] at HF1;clear hv1 hs1 hb1)
    go_ret2
    exact ⟨_,[],rfl,FreshV.nil _ _,stands_nil,HB1.out⟩
end Go.Proofs.YtcefmpnijjcekaaGreatDoor
namespace Go.Proofs.YtcefmpnijjcekaaGreatDoor
def aheadB (p q:Nat × Nat):Bool:=decide (q.2 < p.2∨(q.2=p.2∧p.1≤q.1))
def byLen (l:List (Nat × Nat)):List (Nat × Nat):=l.mergeSort aheadB
def cutAt:List (Nat × Nat)→Nat→List (Nat × Nat)
  | [],_=>[]
  | p::r,n=>if n=0 then [] else if n≤p.2 then [(p.1,n)] else p::cutAt r (n - p.2)
def firstB (p q:Nat × Nat):Bool:=decide (p.1≤q.1)
def someOf (l:List (Nat × Nat)) (n:Nat):List (Nat × Nat):=(cutAt (byLen l) n).mergeSort firstB
def someErr (E:Int) (l:List (Nat × Nat)) (n:Nat):Int:=if E=0 then (if sumG l < n then 6 else 0) else E
def someOut (E:Int) (l:List (Nat × Nat)) (n:Nat):List (Nat × Nat):=if E=0∧n≤sumG l then someOf l n else []
theorem ahead_trans (a b c:Nat × Nat) (h1:aheadB a b=true) (h2:aheadB b c=true):aheadB a c=true:=by
  unfold aheadB at *
  rw [decide_eq_true_iff] at *
  omega
theorem ahead_total (a b:Nat × Nat):(aheadB a b||aheadB b a)=true:=by
  unfold aheadB
  rw [Bool.or_eq_true,decide_eq_true_iff,decide_eq_true_iff]
  omega
theorem ahead_anti {a b:Nat × Nat} (h1:aheadB a b=true) (h2:aheadB b a=true):a=b:=by
  unfold aheadB at *
  rw [decide_eq_true_iff] at *
  exact Prod.ext (by omega) (by omega)
theorem first_trans (a b c:Nat × Nat) (h1:firstB a b=true) (h2:firstB b c=true):firstB a c=true:=by
  unfold firstB at *
  rw [decide_eq_true_iff] at *
  omega
theorem first_total (a b:Nat × Nat):(firstB a b||firstB b a)=true:=by
  unfold firstB
  rw [Bool.or_eq_true,decide_eq_true_iff,decide_eq_true_iff]
  omega
theorem byLen_perm (l:List (Nat × Nat)):(byLen l).Perm l:=List.mergeSort_perm l _
theorem byLen_sorted (l:List (Nat × Nat)):(byLen l).Pairwise (fun a b=>aheadB a b=true):=List.pairwise_mergeSort ahead_trans ahead_total l
theorem someOf_perm (l:List (Nat × Nat)) (n:Nat):(someOf l n).Perm (cutAt (byLen l) n):=List.mergeSort_perm _ _
theorem someOf_sorted (l:List (Nat × Nat)) (n:Nat):(someOf l n).Pairwise (fun a b=>firstB a b=true):=List.pairwise_mergeSort first_trans first_total _
theorem sumG_perm {l m:List (Nat × Nat)} (h:l.Perm m):sumG l=sumG m:=by
  induction h with
  | nil=>rfl
  | cons x _ ih=>show x.2+_=x.2+_;rw [ih]
  | swap x y l=>show y.2+(x.2+sumG l)=x.2+(y.2+sumG l);omega
  | trans _ _ ih1 ih2=>rw [ih1,ih2]
theorem cut_sum:∀ (l:List (Nat × Nat)) (n:Nat),n≤sumG l→sumG (cutAt l n)=n
  | [],n,h=>by
    have:n=0:=by have h':n≤0:=h;omega
    rw [this];rfl
  | p::r,n,h=>by
    have h':n≤p.2+sumG r:=h
    unfold cutAt
    by_cases h0:n=0
    · rw [if_pos h0,h0];rfl
    · rw [if_neg h0]
      by_cases h1:n≤p.2
      · rw [if_pos h1]
        show n+0=n
        omega
      · rw [if_neg h1]
        show p.2+sumG (cutAt r (n - p.2))=n
        rw [cut_sum r (n - p.2) (by omega)]
        omega
theorem cut_mem:∀ (l:List (Nat × Nat)) (n:Nat),(∀ q ∈ l,1≤q.2)→∀ p ∈ cutAt l n,∃ q ∈ l,p.1=q.1∧1≤p.2∧p.2≤q.2
  | [],_,_,p,hp=>by simp [cutAt] at hp
  | x::r,n,h1,p,hp=>by
    unfold cutAt at hp
    by_cases h0:n=0
    · rw [if_pos h0] at hp;simp at hp
    · rw [if_neg h0] at hp
      by_cases hx:n≤x.2
      · rw [if_pos hx,List.mem_singleton] at hp
        subst hp
        exact ⟨x,by simp,rfl,by show 1≤n;omega,hx⟩
      · rw [if_neg hx] at hp
        rcases List.mem_cons.1 hp with hp | hp
        · rw [hp]
          exact ⟨x,by simp,rfl,h1 x (by simp),Nat.le_refl _⟩
        · obtain ⟨q,hq,h⟩:=cut_mem r (n - x.2) (fun q hq=>h1 q (List.mem_cons_of_mem _ hq)) p hp
          exact ⟨q,List.mem_cons_of_mem _ hq,h⟩
theorem Rise.ahead:∀ {l:List (Nat × Nat)} {lo:Nat},Rise lo l→∀ p ∈ l,lo≤p.1
  | [],_,_,p,hp=>by simp at hp
  | x::r,lo,h,p,hp=>by
    rcases List.mem_cons.1 hp with hp | hp
    · rw [hp];exact h.1
    · have:=Rise.ahead h.2 p hp
      have:=h.1
      omega
theorem Rise.pairs:∀ {l:List (Nat × Nat)} {lo:Nat},Rise lo l→l.Pairwise (fun a b=>a.1+a.2 < b.1)
  | [],_,_=>List.Pairwise.nil
  | x::r,lo,h=>List.Pairwise.cons (fun b hb=>by have:=Rise.ahead h.2 b hb;omega) (Rise.pairs h.2)
theorem tight_none_of:∀ (l:List (Nat × Nat)) (n:Nat) (o:Option (Nat × Nat)),l.foldl (tighter n) o=none→o=none∧∀ p ∈ l,p.2 < n
  | [],_,o,h=>⟨h,by simp⟩
  | x::r,n,o,h=>by
    have ih:=tight_none_of r n (tighter n o x) h
    cases o with
    | none=>
      have h1:=ih.1
      have hx:x.2 < n:=by
        show x.2 < n
        have h2:(if n≤x.2 then some x else none)=none:=h1
        by_cases hc:n≤x.2
        · rw [if_pos hc] at h2;cases h2
        · omega
      exact ⟨rfl,fun p hp=>by
        rcases List.mem_cons.1 hp with hp | hp
        · rw [hp];exact hx
        · exact ih.2 p hp⟩
    | some b=>
      exfalso
      have h2:(if n≤x.2∧x.2 < b.2 then some x else some b)=none:=ih.1
      split at h2
      · cases h2
      · cases h2
theorem tight_none {l:List (Nat × Nat)} {n:Nat} (h:tightGap l n=none):∀ p ∈ l,p.2 < n:=(tight_none_of l n none h).2
end Go.Proofs.YtcefmpnijjcekaaGreatDoor
namespace Go.Proofs.YtcefmpnijjcekaaGreatDoor
theorem tight_mem_of:∀ (l:List (Nat × Nat)) (n:Nat) (o:Option (Nat × Nat)) (p:Nat × Nat),l.foldl (tighter n) o=some p→o=some p∨(p ∈ l∧n≤p.2)
  | [],_,_,_,h=>Or.inl h
  | x::r,n,o,p,h=>by
    rcases tight_mem_of r n (tighter n o x) p h with h1 | h1
    · cases o with
      | none=>
        have h2:(if n≤x.2 then some x else none)=some p:=h1
        by_cases hc:n≤x.2
        · rw [if_pos hc] at h2
          cases h2
          exact Or.inr ⟨by simp,hc⟩
        · rw [if_neg hc] at h2;cases h2
      | some b=>
        have h2:(if n≤x.2∧x.2 < b.2 then some x else some b)=some p:=h1
        by_cases hc:n≤x.2∧x.2 < b.2
        · rw [if_pos hc] at h2
          cases h2
          exact Or.inr ⟨by simp,hc.1⟩
        · rw [if_neg hc] at h2
          exact Or.inl h2
    · exact Or.inr ⟨List.mem_cons_of_mem _ h1.1,h1.2⟩
theorem tight_mem {l:List (Nat × Nat)} {n:Nat} {p:Nat × Nat} (h:tightGap l n=some p):p ∈ l∧n≤p.2:=by
  rcases tight_mem_of l n none p h with h | h
  · cases h
  · exact h
theorem some_mem {l:List (Nat × Nat)} {n:Nat} (h1:∀ q ∈ l,1≤q.2):∀ p ∈ someOf l n,∃ q ∈ l,p.1=q.1∧1≤p.2∧p.2≤q.2:=by
  intro p hp
  have hp:=(someOf_perm l n).mem_iff.1 hp
  obtain ⟨q,hq,h⟩:=cut_mem (byLen l) n (fun q hq=>h1 q ((byLen_perm l).mem_iff.1 hq)) p hp
  exact ⟨q,(byLen_perm l).mem_iff.1 hq,h⟩
theorem some_sum {l:List (Nat × Nat)} {n:Nat} (h:n≤sumG l):sumG (someOf l n)=n:=by
  rw [sumG_perm (someOf_perm l n)]
  exact cut_sum _ _ (by rw [sumG_perm (byLen_perm l)];exact h)
theorem cut_firsts:∀ (l:List (Nat × Nat)) (n:Nat),((cutAt l n).map (·.1)).Sublist (l.map (·.1))
  | [],_=>List.Sublist.slnil
  | p::r,n=>by
    unfold cutAt
    by_cases h0:n=0
    · rw [if_pos h0];exact List.nil_sublist _
    · rw [if_neg h0]
      by_cases h1:n≤p.2
      · rw [if_pos h1]
        exact List.Sublist.cons_cons _ (List.nil_sublist _)
      · rw [if_neg h1]
        exact List.Sublist.cons_cons _ (cut_firsts r (n - p.2))
theorem some_firsts {l:List (Nat × Nat)} (h:l.Pairwise (fun a b=>a.1+a.2 < b.1)) (n:Nat):(someOf l n).Pairwise (fun a b=>a.1 < b.1):=by
  have h1:(l.map (·.1)).Pairwise (·≠·):=List.pairwise_map.2 (h.imp (fun {a b} hab=>by omega))
  have h2:((byLen l).map (·.1)).Pairwise (·≠·):=h1.perm ((byLen_perm l).symm.map _) (fun {x y} hxy=>Ne.symm hxy)
  have h3:((cutAt (byLen l) n).map (·.1)).Pairwise (·≠·):=h2.sublist (cut_firsts _ _)
  have h4:((someOf l n).map (·.1)).Pairwise (·≠·):=h3.perm ((someOf_perm l n).symm.map _) (fun {x y} hxy=>Ne.symm hxy)
  have h5:=List.pairwise_map.1 h4
  refine (h5.and (someOf_sorted l n)).imp (fun {a b} hab=>?_)
  have h6:=hab.2
  unfold firstB at h6
  rw [decide_eq_true_iff] at h6
  have:=hab.1
  omega
theorem pairs_lt:∀ {l:List (Nat × Nat)},l.Pairwise (fun a b=>a.1+a.2 < b.1)→∀ a b,a ∈ l→b ∈ l→a.1 < b.1→a.1+a.2 < b.1
  | [],_,a,b,ha,_,_=>by simp at ha
  | x::r,h,a,b,ha,hb,hlt=>by
    obtain ⟨hx,hr⟩:=List.pairwise_cons.1 h
    rcases List.mem_cons.1 ha with ha | ha
    · rcases List.mem_cons.1 hb with hb | hb
      · rw [ha,hb] at hlt;omega
      · rw [ha];exact hx b hb
    · rcases List.mem_cons.1 hb with hb | hb
      · have:=hx a ha;rw [hb] at hlt ⊢;omega
      · exact pairs_lt hr a b ha hb hlt
theorem some_apart {l:List (Nat × Nat)} (h:l.Pairwise (fun a b=>a.1+a.2 < b.1)) (h1:∀ q ∈ l,1≤q.2) (n:Nat):(someOf l n).Pairwise (fun a b=>a.1+a.2≤b.1):=by
  have key:∀ (m:List (Nat × Nat)),(∀ p ∈ m,∃ q ∈ l,p.1=q.1∧1≤p.2∧p.2≤q.2)→m.Pairwise (fun a b=>a.1 < b.1)→m.Pairwise (fun a b=>a.1+a.2≤b.1):=by
    intro m hm hp
    induction hp with
    | nil=>exact List.Pairwise.nil
    | @cons x r hx _ ih=>
      refine List.Pairwise.cons (fun b hb=>?_) (ih (fun p hp=>hm p (List.mem_cons_of_mem _ hp)))
      obtain ⟨q,hq,e1,_,e3⟩:=hm x (by simp)
      obtain ⟨s,hs,d1,_,_⟩:=hm b (List.mem_cons_of_mem _ hb)
      have hlt:=hx b hb
      have:=pairs_lt h q s hq hs (by omega)
      omega
  exact key _ (some_mem h1) (some_firsts h n)
end Go.Proofs.YtcefmpnijjcekaaGreatDoor
namespace Go.Proofs.YtcefmpnijjcekaaGreatDoor
open Go.RowKit
theorem gps_of:∀ {xs:List Value} {l:List (Nat × Nat)},Stands xs l→(∀ p ∈ l,p.1+p.2≤480∧1≤p.2)→∃ gs:List Gp,gs.map encG=xs∧gs.map numG=l
  | [],[],_,_=>⟨[],rfl,rfl⟩
  | [],p::l,h,_=>by have:=h.1;simp at this
  | x::xs,[],h,_=>by have:=h.1;simp at this
  | x::xs,p::l,h,hb=>by
    obtain ⟨a,b,hx,fa,fb⟩:=h.2 0 x p rfl rfl
    obtain ⟨gs,h1,h2⟩:=gps_of (xs:=xs) (l:=l) ⟨by have:=h.1;simpa using this,fun j y q hy hq=>h.2 (j+1) y q (by simpa using hy) (by simpa using hq)⟩ (fun q hq=>hb q (List.mem_cons_of_mem _ hq))
    obtain ⟨b1,b2⟩:=hb p (List.mem_cons_self ..)
    exact ⟨mkG a b p fa fb b1 b2::gs,by rw [List.map_cons,h1,hx];rfl,by rw [List.map_cons,h2];rfl⟩
def stepG (cf:Gp→Gp→Int) (m x:Gp):Gp:=if cf x m < 0 then x else m
theorem cmpN_neg (a b:Nat):cmpN a b < 0 ↔ a < b:=by
  unfold cmpN
  by_cases h:a < b
  · simp [h]
  · by_cases h2:b < a <;> simp [h,h2]
def bigs (gs:List Gp) (n:Int):List Gp:=gs.filter fun z=>!decide (((numG z).2:Int) < n)
def Picks (sel:List (Nat × Nat)→Nat→Option (Nat × Nat)) (cf:Gp→Gp→Int):Prop:=
  ∀ (gs:List Gp) (n:Nat),(gs.map numG).Pairwise (fun a b=>a.1+a.2 < b.1)→sel (gs.map numG) n=match bigs gs n with | []=>none | x::r=>some (numG (r.foldl (stepG cf) x))
def stepO (cf:Gp→Gp→Int):Option Gp→Gp→Option Gp
  | none,x=>some x
  | some m,x=>some (stepG cf m x)
theorem stepO_some (cf:Gp→Gp→Int):∀ (r:List Gp) (x:Gp),r.foldl (stepO cf) (some x)=some (r.foldl (stepG cf) x)
  | [],_=>rfl
  | y::r,x=>stepO_some cf r (stepG cf x y)
theorem tight_fold (n:Nat):∀ (gs:List Gp) (o:Option Gp),(gs.map numG).foldl (tighter n) (o.map numG)=((bigs gs n).foldl (stepO byCount) o).map numG
  | [],_=>rfl
  | x::gs,o=>by
    unfold bigs
    rw [List.map_cons,List.foldl_cons,List.filter_cons]
    by_cases h:n≤(numG x).2
    · have h2:(!decide (((numG x).2:Int) < (n:Int)))=true:=by simp;omega
      rw [if_pos h2,List.foldl_cons]
      have e:tighter n (o.map numG) (numG x)=(stepO byCount o x).map numG:=by
        cases o with
        | none=>show (if n≤(numG x).2 then some (numG x) else none)=_;rw [if_pos h];rfl
        | some m=>
          show (if n≤(numG x).2∧(numG x).2 < (numG m).2 then some (numG x) else some (numG m))=some (numG (stepG byCount m x))
          unfold stepG byCount
          by_cases hl:(numG x).2 < (numG m).2
          · rw [if_pos ⟨h,hl⟩,if_pos ((cmpN_neg _ _).2 hl)]
          · rw [if_neg (fun hh=>hl hh.2),if_neg (fun hh=>hl ((cmpN_neg _ _).1 hh))]
      rw [e]
      exact tight_fold n gs (stepO byCount o x)
    · have h2:¬ (!decide (((numG x).2:Int) < (n:Int)))=true:=by simp;omega
      rw [if_neg h2]
      have e:tighter n (o.map numG) (numG x)=o.map numG:=by
        cases o with
        | none=>show (if n≤(numG x).2 then some (numG x) else none)=_;rw [if_neg h];rfl
        | some m=>
          show (if n≤(numG x).2∧(numG x).2 < (numG m).2 then some (numG x) else some (numG m))=some (numG m)
          rw [if_neg (fun hh=>h hh.1)]
      rw [e]
      exact tight_fold n gs o
theorem tight_picks:Picks tightGap byCount:=by
  intro gs n _
  have h:=tight_fold n gs none
  unfold tightGap
  rw [show (none:Option (Nat × Nat))=(none:Option Gp).map numG from rfl,h]
  cases hb:bigs gs n with
  | nil=>rfl
  | cons x r=>
    show ((r.foldl (stepO byCount) (some x)).map numG)=some (numG (r.foldl (stepG byCount) x))
    rw [stepO_some]
    rfl
theorem stepG_snoc (cf:Gp→Gp→Int) {r:List Gp} {t:Nat} {y:Gp} (x:Gp) (h:r[t]?=some y):(r.take (t+1)).foldl (stepG cf) x=stepG cf ((r.take t).foldl (stepG cf) x) y:=by
  rw [List.take_add_one,h]
  show List.foldl _ _ (r.take t ++ [y])=_
  rw [List.foldl_append]
  rfl
set_option maxRecDepth 100000 in
set_option maxHeartbeats 1600000 in
theorem Min_any (g:Nat) (cf:Gp→Gp→Int) (hc:Cmps g cf) (eg:∀ args w,(callFunc g args).run Tryz.prog w=.ok (.enter g args) w) (b off cap m:Nat) (x0:Gp) (r:List Gp) (w:World) (hm:(x0::r).length=m) (hlen:m≤481)
    (hV:∀ (j:Nat) (x:Gp),(x0::r)[j]?=some x→w.cell? ⟨b,off+j,none⟩=some (encG x)) :
    Calls Tryz.prog 180 #[.slice (some ⟨b,off,none⟩) m cap,.func (.func g) #[] #[]] w fun e w'=>e=.returned (encG (r.foldl (stepG cf) x0))∧w=w':=by
  have c0:=hV 0 x0 rfl
  rw [Nat.add_zero] at c0
  have HV:=Lib.hid hV
  have HC:=Lib.hid hc
  have h1:1≤m:=by rw [← hm];simp
  have HM:=Lib.hid hm
  unfold encG at c0 ⊢
  clear hV hc hm
  go_enter Tryz.func180,Tryz.ntmps180
  go_wp2_with fail
  go_loop [5,6] (fun mv tv=>∃ (i:Nat) (z:Gp),1≤i∧i≤m∧mv=.complex .f64 z.1.1.1 z.1.1.2∧tv=.int .i64 (i:Int)∧Hid (z=(r.take (i - 1)).foldl (stepG cf) x0)) (fun _ tv=>m - (intOf tv).toNat)
  case atStart=>exact ⟨1,x0,Nat.le_refl _,h1,rfl,rfl,Lib.hid rfl⟩
  case round=>
    obtain ⟨i,z,i1,i2,rfl,rfl,HZ⟩:=hrel
    by_cases hlt:i < m
    · obtain ⟨x,hx⟩:∃ x,r[i - 1]?=some x:=⟨_,List.getElem?_eq_getElem (by have:=HM.out;rw [List.length_cons] at this;omega)⟩
      have hcell:=HV.out i x (by
        obtain ⟨k,rfl⟩:∃ k,i=k+1:=⟨i - 1,by omega⟩
        simpa using hx)
      have cC:=HC.out x z w
      have HN:Hid (stepG cf z x=(r.take i).foldl (stepG cf) x0):=Lib.hid (by
        have h:=stepG_snoc cf x0 hx
        rw [show i - 1+1=i by omega,← HZ.out] at h
        exact h.symm)
      unfold encG at hcell cC
      clear hx
      by_cases hn:cf x z < 0
      · have HE:Hid (stepG cf z x=x):=Lib.hid (by unfold stepG;rw [if_pos hn])
        have hi:(i:Int) < (m:Int):=by omega
        go_wp2_with (go_at_fn g;refine cC.mono ?_;rintro e w' ⟨rfl,rfl⟩)
        go_round
        case rel=>exact ⟨i+1,x,by omega,by omega,rfl,by go_num,Lib.hid (by rw [← HE.out,HN.out];rfl)⟩
        case measure=>simp [intOf];omega
      · have HE:Hid (stepG cf z x=z):=Lib.hid (by unfold stepG;rw [if_neg hn])
        have hi:(i:Int) < (m:Int):=by omega
        go_wp2_with (go_at_fn g;refine cC.mono ?_;rintro e w' ⟨rfl,rfl⟩)
        go_round
        case rel=>exact ⟨i+1,z,by omega,by omega,rfl,by go_num,Lib.hid (by rw [← HE.out,HN.out];rfl)⟩
        case measure=>simp [intOf];omega
    · have hi:¬ (i:Int) < (m:Int):=by omega
      have HF:Hid (z=r.foldl (stepG cf) x0):=Lib.hid (by
        rw [HZ.out,List.take_of_length_le (by have:=HM.out;rw [List.length_cons] at this;omega)])
      go_wp2_with fail
      go_ret
      exact ⟨by rw [← HF.out];rfl,rfl⟩
set_option maxHeartbeats 800000 in
theorem small_any (z:Gp) (n:Int) (B:Nat) (W:World) (hc:W.cell? ⟨B,0,none⟩=some (.int .i64 n)) :
    FnGives Tryz.prog 178 #[.pointer (some ⟨B,0,none⟩)] #[encG z] (.bool (decide (((numG z).2:Int) < n))) W:=by
  show Calls Tryz.prog 178 #[encG z,.pointer (some ⟨B,0,none⟩)] W _
  have cc:∀ w,Calls Tryz.prog 124 #[encG z] w fun e w'=>e=.returned (.int .i64 ((numG z).2:Int))∧w'=w:=fun w=>(count_gp z w).mono (by rintro e w' ⟨rfl,rfl⟩;exact ⟨rfl,rfl⟩)
  generalize ((numG z).2:Int)=k at cc ⊢
  unfold encG at cc ⊢
  go_enter Tryz.func178,Tryz.ntmps178
  go_wp2_with fail
  go_quiet (first | (go_at_call 124;refine Calls.quiet_of_same (cc _)))
  go_wp2_with fail
  go_ret
  exact ⟨rfl,_,rfl⟩
end Go.Proofs.YtcefmpnijjcekaaGreatDoor
