/- Proved here: what the library's stable sort of gaps does (slices.SortStableFunc), the comparison a plain function of two gaps: they are sorted, and equals keep their order. The conditions stand at each theorem. Proved here: plain facts on taking the longest gap left, again and again, and on sorting by exchanging neighbours. No conditions but those that each theorem names. .. -/
import Derived.Test.YtcefmpnijjcekaaGreatDoorTk10
import Derived.Test.YtcefmpnijjcekaaGreatDoorTk9
import Derived.Shelf.SlSortCmp.Whole1
namespace Go.Proofs.YtcefmpnijjcekaaGreatDoor
open Go.RowKit
open Go.Sort (swp SWO PermIn SortedIn size_swp insertionSort)
theorem cmps_lays {g:Nat} {cf:Gp→Gp→Int} (hc:Cmps g cf) (blk off size:Nat) (w:World):CmpLays1 Tryz.prog g #[] encG cf blk off size w:=
  CmpReads.lays (show CmpReads Tryz.prog g #[] encG cf blk off size w from fun m os dk _ x y=>(hc x y (sortWorld encG w blk off m dk os)).mono (by rintro e w' ⟨rfl,rfl⟩;exact ⟨rfl,0,rfl⟩))
theorem ins_walk (g:Nat) (cf:Gp→Gp→Int) (hc:Cmps g cf) (eg:∀ args w,(callFunc g args).run Tryz.prog w=.ok (.enter g args) w) (hO:SWO (ltOf cf)) (Rel:Gp→Gp→Prop) (blk off cap N a b:Nat) (d0 d:Array Gp) (w0 w:World) (R:Row1 encG w0 blk off d0) (hs0:d0.size=N) (hs:d.size=N) (S:SW encG w0 blk off d w) (hab:a≤b) (hb:b≤N) (hN:N≤481) (hst:Stab (ltOf cf) Rel d) :
    Calls Tryz.prog 216 #[.slice (some ⟨blk,off,none⟩) N cap,.int .i64 a,.int .i64 b,.func (.func g) #[] #[]] w (Merged cf Rel w0 blk off a b d):=by
  have h:=Any.insertionSortCmpFunc_s (P:=Tryz.prog) (ρ:=insL_ren) insL encG cf g #[] blk off cap a b d0 d w0 w eg (cmps_lays hc blk off d0.size w0) R (by omega) S hab (by omega) (by omega)
  change Calls Tryz.prog 216 _ _ _ at h
  rw [hs] at h
  refine h.mono ?_
  rintro e w' ⟨rfl,hS⟩
  have hp:=Sort.insertionSort_holds hO d a b hab (by omega)
  exact ⟨rfl,_,hp.1,hp.2,insertion_stab (by omega) hst,hS⟩
def Kept (cf:Gp→Gp→Int) (Rel:Gp→Gp→Prop) (w0:World) (blk off N:Nat) (d dk:Array Gp) (wr:World):Prop:=
  dk.size=N∧PermIn 0 N d dk∧Stab (ltOf cf) Rel dk∧SW encG w0 blk off dk wr
theorem Kept.merged {cf:Gp→Gp→Int} {Rel:Gp→Gp→Prop} {w0 w':World} {blk off N a b:Nat} {d dk D:Array Gp} {wr:World} (h:Kept cf Rel w0 blk off N d dk wr) (hb:b≤N) (hp:PermIn a b dk D) (hst:Stab (ltOf cf) Rel D) (hS:SW encG w0 blk off D w'):Kept cf Rel w0 blk off N d D w':=
  ⟨by rw [hp.1];exact h.1,Sort.permIn_trans _ _ _ _ _ h.2.1 (Sort.permIn_mono _ _ _ _ _ _ (Nat.zero_le _) hb (by rw [h.1];exact Nat.le_refl _) hp),hst,hS⟩
set_option maxRecDepth 100000 in
set_option maxHeartbeats 4000000 in
theorem stable_any (g:Nat) (cf:Gp→Gp→Int) (hc:Cmps g cf) (eg:∀ args w,(callFunc g args).run Tryz.prog w=.ok (.enter g args) w) (hO:SWO (ltOf cf)) (Rel:Gp→Gp→Prop) (blk off cap N:Nat) (d:Array Gp) (w:World) (R:Row1 encG w blk off d) (hs:d.size=N) (hN:N≤481) (hst:Stab (ltOf cf) Rel d) :
    Calls Tryz.prog 183 #[.slice (some ⟨blk,off,none⟩) N cap,.int .i64 N,.func (.func g) #[] #[]] w (Merged cf Rel w blk off 0 N d):=by
  have HINS:Hid (∀ (a b:Nat) (dk:Array Gp) (wr:World),a≤b→b≤N→Kept cf Rel w blk off N d dk wr→Calls Tryz.prog 216 #[.slice (some ⟨blk,off,none⟩) N cap,.int .i64 a,.int .i64 b,.func (.func g) #[] #[]] wr (Merged cf Rel w blk off a b dk)):=
    Lib.hid (fun a b dk wr h1 h2 h=>ins_walk g cf hc eg hO Rel blk off cap N a b d dk w wr R hs h.1 h.2.2.2 h1 h2 hN h.2.2.1)
  have HSYM:Hid (∀ (a m b:Nat) (dk:Array Gp) (wr:World),a < m→m < b→b≤N→Kept cf Rel w blk off N d dk wr→SortedIn (ltOf cf) a m dk→SortedIn (ltOf cf) m b dk→Calls Tryz.prog 217 #[.slice (some ⟨blk,off,none⟩) N cap,.int .i64 a,.int .i64 m,.int .i64 b,.func (.func g) #[] #[]] wr (Merged cf Rel w blk off a b dk)):=
    Lib.hid (fun a m b dk wr h1 h2 h3 h h4 h5=>sym_any g cf hc eg hO Rel blk off cap N d w R hs hN (b - a) a m b dk wr (Nat.le_refl _) h1 h2 h3 h.1 h.2.2.2 h4 h5 h.2.2.1)
  have K0:Hid (Kept cf Rel w blk off N d d w):=Lib.hid ⟨hs,Sort.permIn_refl _ _ _,hst,SW.start R.hH⟩
  have B0:Hid (∃ q,0=q * 20∧Blocks (ltOf cf) 20 0 0 N d):=Lib.hid ⟨0,rfl,blocks_none 20 N d⟩
  clear hc hO hst R hs
  go_enter Tryz.func183,Tryz.ntmps183
  go_wp2_with fail
  go_loopw [7,8] (fun av bv wr=>∃ (a:Nat) (dk:Array Gp),av=.int .i64 a∧bv=.int .i64 ((a:Int)+20)∧a≤N∧Hid (∃ q,a=q * 20∧Blocks (ltOf cf) 20 0 a N dk)∧Hid (Kept cf Rel w blk off N d dk wr)) (fun av _ _=>N - (intOf av).toNat)
  case atStart=>exact ⟨0,d,rfl,rfl,Nat.zero_le _,B0,K0⟩
  case round=>
    clear K0 B0
    obtain ⟨a,dk,rfl,rfl,ha,HB,HK⟩:=hrel
    by_cases hle:a+20≤N
    · have hz:(a:Int)+20≤(N:Int):=by omega
      have c:=HINS.out a (a+20) dk wr (by omega) hle HK.out
      rw [show ((a+20:Nat):Int)=(a:Int)+20 by omega] at c
      go_wp2_with fail
      refine c.mono ?_
      rintro e w2 ⟨rfl,D,hp,ho,ht,hS⟩
      have HK2:Hid (Kept cf Rel w blk off N d D w2):=Lib.hid (HK.out.merged hle hp ht hS)
      have HB2:Hid (∃ q,a+20=q * 20∧Blocks (ltOf cf) 20 0 (a+20) N D):=Lib.hid (by
        obtain ⟨q,hq,hbl⟩:=HB.out
        refine ⟨q+1,by omega,?_⟩
        rw [show a+20=(q+1) * 20 by omega]
        rw [hq] at hbl hp ho
        exact blocks_more hbl hp ho)
      clear c hp ho ht hS HB HK
      go_wp2_with fail
      go_roundw
      case rel=>exact ⟨a+20,D,by go_num,by first | (congr 1;done) | (congr 1;omega),hle,HB2,HK2⟩
      case measure=>simp [intOf];omega
    · have hz:¬ (a:Int)+20≤(N:Int):=by omega
      have c:=HINS.out a N dk wr ha (Nat.le_refl _) HK.out
      go_wp2_with fail
      refine c.mono ?_
      rintro e w2 ⟨rfl,D,hp,ho,ht,hS⟩
      have HK2:Hid (Kept cf Rel w blk off N d D w2):=Lib.hid (HK.out.merged (Nat.le_refl _) hp ht hS)
      have HB2:Hid (Blocks (ltOf cf) 20 0 N N D):=Lib.hid (by
        obtain ⟨q,hq,hbl⟩:=HB.out
        rw [hq] at hbl hp ho
        exact blocks_last hbl (by omega) hp ho)
      clear c hp ho ht hS HB HK HINS
      go_wp2_with fail
      go_loopw [6] (fun sv wr=>∃ (bs:Nat) (dk:Array Gp),sv=.int .i64 bs∧20≤bs∧bs≤1000∧Hid (Blocks (ltOf cf) bs 0 N N dk)∧Hid (Kept cf Rel w blk off N d dk wr)) (fun sv _=>N - (intOf sv).toNat)
      case atStart=>exact ⟨20,D,rfl,Nat.le_refl _,by omega,HB2,HK2⟩
      case round=>
        clear HB2 HK2
        obtain ⟨bs,dk,rfl,b1,b2,HB,HK⟩:=hrel
        by_cases hlt:bs < N
        · have hltz:(bs:Int) < (N:Int):=by omega
          have HB0:Hid (∃ q,0=q * (2 * bs)∧Blocks (ltOf cf) (2 * bs) 0 0 N dk∧Blocks (ltOf cf) bs 0 N N dk):=Lib.hid ⟨0,by rw [Nat.zero_mul],blocks_none _ N dk,HB.out⟩
          clear HB
          go_wp2_with fail
          go_loopw [7,8] (fun av bv wr=>∃ (a:Nat) (dk:Array Gp),av=.int .i64 a∧bv=.int .i64 ((a:Int)+2 * (bs:Int))∧a≤N∧Hid (∃ q,a=q * (2 * bs)∧Blocks (ltOf cf) (2 * bs) 0 a N dk∧Blocks (ltOf cf) bs a N N dk)∧Hid (Kept cf Rel w blk off N d dk wr)) (fun av _ _=>N - (intOf av).toNat)
          case atStart=>exact ⟨0,dk,rfl,by first | (congr 1;done) | (congr 1;omega),Nat.zero_le _,HB0,HK⟩
          case round=>
            clear HB0 HK
            obtain ⟨a,dj,rfl,rfl,ha,HB,HK⟩:=hrel
            by_cases hle:a+2 * bs≤N
            · have hz:(a:Int)+2 * (bs:Int)≤(N:Int):=by omega
              have c:=HSYM.out a (a+bs) (a+2 * bs) dj wr (by omega) (by omega) hle HK.out (by
                obtain ⟨q,hq,_,hbl⟩:=HB.out
                rw [hq] at hbl hle ⊢
                exact (blocks_two hbl hle (by omega)).1) (by
                obtain ⟨q,hq,_,hbl⟩:=HB.out
                rw [hq] at hbl hle ⊢
                exact (blocks_two hbl hle (by omega)).2)
              rw [show ((a+bs:Nat):Int)=(a:Int)+(bs:Int) by omega,show ((a+2 * bs:Nat):Int)=(a:Int)+2 * (bs:Int) by omega] at c
              go_wp2_with fail
              refine c.mono ?_
              rintro e w3 ⟨rfl,D3,hp,ho,ht,hS⟩
              have HK2:Hid (Kept cf Rel w blk off N d D3 w3):=Lib.hid (HK.out.merged hle hp ht hS)
              have HB2:Hid (∃ q,a+2 * bs=q * (2 * bs)∧Blocks (ltOf cf) (2 * bs) 0 (a+2 * bs) N D3∧Blocks (ltOf cf) bs (a+2 * bs) N N D3):=Lib.hid (by
                obtain ⟨q,hq,hb1,hb2⟩:=HB.out
                have e1:(q+1) * (2 * bs)=a+2 * bs:=by rw [Nat.add_mul,Nat.one_mul,← hq]
                refine ⟨q+1,e1.symm,?_,blocks_ahead hb2 (by omega) (Nat.le_refl _) (fun i hi=>hp.2.1 i (Or.inr hi))⟩
                rw [← e1]
                rw [hq] at hb1 hp ho
                exact blocks_more hb1 hp ho)
              clear c hp ho ht hS HB HK
              go_wp2_with fail
              go_roundw
              case rel=>exact ⟨a+2 * bs,D3,by first | (congr 1;done) | (congr 1;omega),by first | (congr 1;done) | (congr 1;omega),hle,HB2,HK2⟩
              case measure=>simp [intOf];omega
            · have hz:¬ (a:Int)+2 * (bs:Int)≤(N:Int):=by omega
              by_cases hm:a+bs < N
              · have hmz:(a:Int)+(bs:Int) < (N:Int):=by omega
                have c:=HSYM.out a (a+bs) N dj wr (by omega) hm (Nat.le_refl _) HK.out (by
                  obtain ⟨q,hq,_,hbl⟩:=HB.out
                  rw [hq] at hbl hm hle ⊢
                  exact (blocks_two_last hbl hm (by omega) (by omega)).1) (by
                  obtain ⟨q,hq,_,hbl⟩:=HB.out
                  rw [hq] at hbl hm hle ⊢
                  exact (blocks_two_last hbl hm (by omega) (by omega)).2)
                rw [show ((a+bs:Nat):Int)=(a:Int)+(bs:Int) by omega] at c
                go_wp2_with fail
                refine c.mono ?_
                rintro e w3 ⟨rfl,D3,hp,ho,ht,hS⟩
                have HK2:Hid (Kept cf Rel w blk off N d D3 w3):=Lib.hid (HK.out.merged (Nat.le_refl _) hp ht hS)
                have HB2:Hid (Blocks (ltOf cf) (2 * bs) 0 N N D3):=Lib.hid (by
                  obtain ⟨q,hq,hb1,hb2⟩:=HB.out
                  rw [hq] at hb1 hp ho
                  exact blocks_last hb1 (by omega) hp ho)
                clear c hp ho ht hS HB HK
                go_wp2_with fail
                go_roundw
                case rel=>exact ⟨2 * bs,D3,by first | (congr 1;done) | (congr 1;omega),by omega,by omega,HB2,HK2⟩
                case measure=>simp [intOf];omega
              · have hmz:¬ (a:Int)+(bs:Int) < (N:Int):=by omega
                have HB2:Hid (Blocks (ltOf cf) (2 * bs) 0 N N dj):=Lib.hid (by
                  obtain ⟨q,hq,hb1,hb2⟩:=HB.out
                  have ho:SortedIn (ltOf cf) (q * (2 * bs)) N dj:=blocks_one_last (by rw [hq] at hb2;exact hb2) (by omega)
                  rw [hq] at hb1
                  exact blocks_last hb1 (by omega) (Sort.permIn_refl _ _ _) ho)
                clear HB
                go_wp2_with fail
                go_roundw
                case rel=>exact ⟨2 * bs,dj,by first | (congr 1;done) | (congr 1;omega),by omega,by omega,HB2,HK⟩
                case measure=>simp [intOf];omega
        · have hltz:¬ (bs:Int) < (N:Int):=by omega
          have HF:Hid (SortedIn (ltOf cf) 0 N dk):=Lib.hid (blocks_all HB.out (by omega))
          clear HB
          go_wp2_with fail
          go_end0
          exact ⟨rfl,dk,HK.out.2.1,HF.out,HK.out.2.2.1,HK.out.2.2.2⟩
set_option maxHeartbeats 400000 in
theorem sort_stable_any (g:Nat) (cf:Gp→Gp→Int) (hc:Cmps g cf) (eg:∀ args w,(callFunc g args).run Tryz.prog w=.ok (.enter g args) w) (hO:SWO (ltOf cf)) (Rel:Gp→Gp→Prop) (blk off cap N:Nat) (d:Array Gp) (w:World) (R:Row1 encG w blk off d) (hs:d.size=N) (hN:N≤481) (hst:Stab (ltOf cf) Rel d) :
    Calls Tryz.prog 126 #[.slice (some ⟨blk,off,none⟩) N cap,.func (.func g) #[] #[]] w (Merged cf Rel w blk off 0 N d):=by
  have c:=stable_any g cf hc eg hO Rel blk off cap N d w R hs hN hst
  clear hc hO hst R hs
  go_enter Tryz.func126,Tryz.ntmps126
  go_wp2_with fail
  refine c.mono ?_
  rintro e w2 ⟨rfl,D,hp,ho,ht,hS⟩
  have HE:=Lib.hid (And.intro hp (And.intro ho (And.intro ht hS)))
  clear c hp ho ht hS
  go_wp2_with fail
  go_end0
  exact ⟨rfl,D,HE.out⟩
end Go.Proofs.YtcefmpnijjcekaaGreatDoor
namespace Go.Proofs.YtcefmpnijjcekaaGreatDoor
/-! Sorting by exchanging neighbours -/
def SortedTo (T:List (Nat × Nat)) (i:Nat):Prop:=∀ (a b:Nat) (p q:Nat × Nat),a < b→b < i→T[a]?=some p→T[b]?=some q→p.1≤q.1
theorem sorted_some {l:List (Nat × Nat)} {n:Nat} {T:List (Nat × Nat)} (hr:l.Pairwise (fun a b=>a.1+a.2 < b.1)) (hp:T.Perm (cutAt (byLen l) n)) (hs:SortedTo T T.length):T=someOf l n:=by
  have hT:T.Pairwise (fun a b=>firstB a b=true):=by
    rw [List.pairwise_iff_getElem]
    intro i j hi hj hij
    unfold firstB
    rw [decide_eq_true_iff]
    exact hs i j _ _ hij hj (List.getElem?_eq_getElem hi) (List.getElem?_eq_getElem hj)
  have hperm:T.Perm (someOf l n):=hp.trans (someOf_perm l n).symm
  refine List.Perm.eq_of_pairwise (le:=fun a b=>firstB a b=true) ?_ hT (someOf_sorted l n) hperm
  intro a b ha hb h1 h2
  have ha':=hperm.mem_iff.1 ha
  unfold firstB at h1 h2
  rw [decide_eq_true_iff] at h1 h2
  have hf:=some_firsts hr n
  obtain ⟨i,hi⟩:=List.mem_iff_getElem?.1 ha'
  obtain ⟨j,hj⟩:=List.mem_iff_getElem?.1 hb
  obtain ⟨hi',ei⟩:=List.getElem?_eq_some_iff.1 hi
  obtain ⟨hj',ej⟩:=List.getElem?_eq_some_iff.1 hj
  rcases Nat.lt_trichotomy i j with h | h | h
  · have:=List.pairwise_iff_getElem.1 hf i j hi' hj' h
    rw [ei,ej] at this
    omega
  · subst h
    rw [hi] at hj
    cases hj
    rfl
  · have:=List.pairwise_iff_getElem.1 hf j i hj' hi' h
    rw [ei,ej] at this
    omega
end Go.Proofs.YtcefmpnijjcekaaGreatDoor
namespace Go.Proofs.YtcefmpnijjcekaaGreatDoor
open Go.RowKit
theorem cut_zero:∀ l:List (Nat × Nat),cutAt l 0=[]
  | []=>rfl
  | _::_=>rfl
theorem cut_more (p:Nat × Nat) (t:List (Nat × Nat)) {r:Nat} (h:0 < r):cutAt (p::t) r=(p.1,min r p.2)::cutAt t (r - min r p.2):=by
  show (if r=0 then [] else if r≤p.2 then [(p.1,r)] else p::cutAt t (r - p.2))=_
  rw [if_neg (by omega)]
  by_cases h1:r≤p.2
  · rw [if_pos h1,Nat.min_eq_left h1,Nat.sub_self,cut_zero]
  · rw [if_neg h1,Nat.min_eq_right (by omega)]
theorem count_cV (a n:Nat) (w:World) (hn:1≤n) (h:a+n≤480) :
    Calls Tryz.prog 124 #[.complex .f64 (floatOfInt .f64 (a:Int)) (floatOfInt .f64 (n:Int))] w fun e w'=>e=.returned (.int .i64 n)∧w=w':=
  count_gp (mkG _ _ (a,n) (fi_ofInt _ (by omega)) (fi_ofInt _ (by omega)) h hn) w
set_option maxRecDepth 100000 in
set_option maxHeartbeats 1600000 in
theorem take_any (ao:Option Addr) (cap m k:Nat) (gs:List Gp) (w:World) (hV:Vals w ao m (gs.map encG)) (hm:m≤481) (h1:∀ z ∈ gs,1≤(numG z).2) (hk:k≤480) :
    Calls Tryz.prog 128 #[.slice ao m cap,.int .i64 k] w fun e w'=>∃ v,e=.returned (.tuple #[v,.int .i64 ((k - sumG (gs.map numG):Nat):Int)])∧FreshV w' w.heap.size v ((cutAt (gs.map numG) k).map cV)∧Below w.heap.size w w':=by
  have hgl:gs.length=m:=by have:=hV.1;rwa [List.length_map] at this
  have HV:=Lib.hid hV
  have HL:=Lib.hid hgl
  have H1:=Lib.hid h1
  obtain ⟨l,HLL⟩:∃ l,Hid (l=gs.map numG):=⟨_,Lib.hid rfl⟩
  have HG0:Hid (([]:List (Nat × Nat)) ++ cutAt (l.drop 0) k=cutAt l k):=Lib.hid (by rw [List.nil_append,List.drop_zero])
  have HQ0:Hid (k=k - sumG (l.take 0)):=Lib.hid (by rw [List.take_zero];rfl)
  have HO0:=Lib.hid (World.ownsRow_nil w w.heap.size 97 1)
  have HB0:Hid (Below w.heap.size w w):=Lib.hid (Below.refl _ _)
  have HEND:Hid (∀ (i r:Nat) (acc:List (Nat × Nat)),i≤m→(r=0∨i=m)→acc ++ cutAt (l.drop i) r=cutAt l k→r=k - sumG (l.take i)→acc=cutAt (gs.map numG) k∧r=k - sumG (gs.map numG)):=Lib.hid (fun i r acc hi he ha hr=>by
    rw [← HLL.out]
    have hll:l.length=m:=by rw [HLL.out,List.length_map];exact hgl
    rcases he with he | he
    · rw [he,cut_zero,List.append_nil] at ha
      exact ⟨ha,by have:=sumG_take_le l i;omega⟩
    · rw [he,List.drop_of_length_le (by omega)] at ha
      rw [he,List.take_of_length_le (by omega)] at hr
      exact ⟨by rw [← ha];show acc=acc ++ [];rw [List.append_nil],hr⟩)
  clear hV h1 hgl
  go_enter Tryz.func128,Tryz.ntmps128
  go_wp2_with fail
  go_loopw [1,4,13] (fun nv vv iv wr=>∃ (i r:Nat) (acc:List (Nat × Nat)),i≤m∧r≤k∧acc.length≤i∧nv=.int .i64 r∧iv=.int .i64 i∧Hid (acc ++ cutAt (l.drop i) r=cutAt l k)∧Hid (r=k - sumG (l.take i))∧Hid (wr.ownsRow w.heap.size 97 1 vv acc.length (acc.map cV))∧Hid (Below w.heap.size w wr)) (fun _ _ iv _=>m - (intOf iv).toNat)
  case atStart=>exact ⟨0,k,[],Nat.zero_le _,Nat.le_refl _,Nat.le_refl _,rfl,rfl,HG0,HQ0,HO0,HB0⟩
  case round=>
    clear HG0 HQ0 HO0 HB0
    obtain ⟨i,r,acc,hi,hr,hacc,rfl,rfl,HG,HQ,HR,HW⟩:=hrel
    by_cases hlt:i < m
    · have hVw:=HV.out.later HW.out
      obtain ⟨b,off,rfl,hc⟩:=hVw.2.2.resolve_left (by omega)
      obtain ⟨z,hz⟩:∃ z,gs[i]?=some z:=⟨_,List.getElem?_eq_getElem (by rw [HL.out];exact hlt)⟩
      have hcell:=hc i (encG z) (by rw [List.getElem?_map,hz];rfl)
      have hltz:(i:Int) < (m:Int):=by omega
      by_cases hr0:r=0
      · subst hr0
        have HF:=Lib.hid (HEND.out i 0 acc hi (Or.inl rfl) HG.out HQ.out)
        unfold encG at hcell
        clear hVw hc hz HEND
        go_wp2_with fail
        go_ret2
        rw [HF.out.2.symm,HF.out.1.symm]
        exact ⟨_,rfl,owns_vals HR.out (by omega),HW.out⟩
      · have hzm:=List.mem_of_getElem? hz
        have hz1:=H1.out z hzm
        have hz2:=gp_bound z
        have hlp:l[i]?=some (numG z):=by rw [HLL.out,List.getElem?_map,hz];rfl
        have hdrop:l.drop i=numG z::l.drop (i+1):=by
          obtain ⟨h,e⟩:=List.getElem?_eq_some_iff.1 hlp
          rw [List.drop_eq_getElem_cons h,e]
        obtain ⟨c,hcm⟩:∃ c,c=min r (numG z).2:=⟨_,rfl⟩
        have hc1:1≤c∧c≤(numG z).2∧c≤r:=by omega
        obtain ⟨hc1,hc2,hc3⟩:=hc1
        have HG2:Hid (acc ++ [((numG z).1,c)] ++ cutAt (l.drop (i+1)) (r - c)=cutAt l k):=Lib.hid (by
          have h:=HG.out
          rw [hdrop,cut_more _ _ (by omega),← hcm] at h
          rw [List.append_assoc]
          exact h)
        have HQ2:Hid (r - c=k - sumG (l.take (i+1))):=Lib.hid (by
          rw [sumG_take hlp]
          have:=HQ.out
          omega)
        have hmin:min (r:Int) ((numG z).2:Int)=(c:Int):=by omega
        have HMIN:=Lib.hid hmin
        have cz:=count_gp z wr
        obtain ⟨u,v,hcut⟩:=Cut_any _ _ _ _ c (gp_fst z) (gp_snd z) hc1 hc2 hz2
        have cC:=hcut wr
        have HCC:=Lib.hid (fun w=>count_cV (numG z).1 c w hc1 (by omega))
        have HS:Hid (w.heap.size≤wr.heap.size+1):=Lib.hid (by have:=HW.out.size;omega)
        have hrz:((r:Int) == 0)=false:=by simp;omega
        have HCV:Hid (cV ((numG z).1,c)=.complex .f64 (floatOfInt .f64 ((numG z).1:Int)) (floatOfInt .f64 (c:Int))):=Lib.hid rfl
        have hbz:(c:Int)≤((numG z).2:Int):=by omega
        unfold encG at hcell cz
        generalize floatOfInt .f64 ((numG z).1:Int)=X at *
        generalize floatOfInt .f64 (c:Int)=Y at *
        generalize ((numG z).2:Int)=q at *
        clear hVw hc hz hzm hz1 hz2 hlp hdrop hcm hcut HEND HG HQ hr0
        go_wp2_with (go_at_call 124;refine cz.mono ?_;rintro e w' ⟨rfl,rfl⟩)
        refine cC.mono ?_
        rintro e w' ⟨rfl,rfl⟩
        clear cC cz hcell hmin
        go_wp2_with (first | (at_builtin;refine wp_append_one elemComplex rfl (.tmp 29) (.tmp 31) rfl w.heap.size acc.length _ _ rfl (HR.out.alloc _) ⟨w'.heap.size,0,none⟩ 1 _ rfl (one_cell_new _ _ _) rfl rfl (by omega) (by simpa using HS.out) ?_;intro v1 w1 hown1 hb1;have HO1:=Lib.hid hown1;have HB1:=Lib.hid hb1;clear hown1 hb1))
        refine (HCC.out _).mono ?_
        rintro e w2 ⟨rfl,rfl⟩
        go_wp2_with fail
        go_roundw
        case rel=>
          refine ⟨i+1,r - c,acc ++ [((numG z).1,c)],by omega,by omega,by rw [List.length_append];simp;omega,by go_num,by go_num,HG2,HQ2,Lib.hid ?_,Lib.hid ((HW.out.alloc (by have:=HW.out.size;exact this) _).trans HB1.out)⟩
          rw [List.length_append,List.map_append]
          have h:=HO1.out
          rw [← HCV.out] at h
          exact h
        case measure=>simp [intOf];omega
    · have him:i=m:=by omega
      subst him
      have HF:=Lib.hid (HEND.out i r acc hi (Or.inr rfl) HG.out HQ.out)
      clear HEND
      go_wp2_with fail
      go_ret2
      rw [HF.out.2.symm,HF.out.1.symm]
      exact ⟨_,rfl,owns_vals HR.out (by omega),HW.out⟩
end Go.Proofs.YtcefmpnijjcekaaGreatDoor
namespace Go.Proofs.YtcefmpnijjcekaaGreatDoor
open Go.RowKit
theorem below_put {B:Nat} {a w:World} (h:Below B a w) (enc:Gp→Value) {blk:Nat} (hb:B≤blk) (off:Nat) (d:Array Gp):Below B a (Sort.putRow enc w blk off d):=
  ⟨h.os,h.tape,h.output,by rw [Sort.size_putRow];exact h.size,fun k hk=>by
    rw [← h.block k hk]
    show (w.heap.modify blk _)[k]?=_
    rw [Array.getElem?_modify,if_neg (by omega)]⟩
theorem get_bang {gs:List Gp} {j:Nat} {x:Gp} (h:gs[j]?=some x):gs.toArray[j]! = x:=by
  obtain ⟨hj,e⟩:=List.getElem?_eq_some_iff.1 h
  rw [getElem!_pos _ j (by simpa using hj)]
  simpa using e
theorem holds_of {w:World} {b:Nat} {gs:List Gp} (hc:∀ j x,(gs.map encG)[j]?=some x→w.cell? ⟨b,j,none⟩=some x) (hf:∀ j,w.frozen? ⟨b,j,none⟩=false):Sort.Holds encG w b 0 gs.toArray:=by
  intro j hj
  have hj':j < gs.length:=by simpa using hj
  refine ⟨?_,by rw [Nat.zero_add];exact hf j⟩
  rw [Nat.zero_add]
  refine hc j _ ?_
  rw [List.getElem?_map,List.getElem?_eq_getElem hj',getElem!_pos _ j hj]
  simp
theorem fold_mem (cf:Gp→Gp→Int):∀ (r:List Gp) (x:Gp),r.foldl (stepG cf) x ∈ x::r
  | [],x=>List.mem_cons_self ..
  | y::r,x=>by
    have h:=fold_mem cf r (stepG cf x y)
    rw [List.foldl_cons]
    rcases List.mem_cons.1 h with h | h
    · rw [h]
      unfold stepG
      split
      · exact List.mem_cons_of_mem _ (List.mem_cons_self ..)
      · exact List.mem_cons_self ..
    · exact List.mem_cons_of_mem _ (List.mem_cons_of_mem _ h)
set_option maxHeartbeats 800000 in
theorem Del_none (a:Option Addr) (c:Nat) (fv:Value) (w:World) :
    Calls Tryz.prog 177 #[.slice a 0 c,fv] w fun e w'=>e=.returned (.slice a 0 c)∧w=w':=by
  have c0:=AnyE.slices_IndexFunc_empty (P:=Tryz.prog) (ρ:=delL_ren) { delL with } a c fv w
  change Calls Tryz.prog 214 _ _ _ at c0
  go_enter Tryz.func177,Tryz.ntmps177
  go_wp2_with (go_at_call 214;refine c0.mono ?_;rintro e w' ⟨rfl,rfl⟩)
  go_ret
  exact ⟨rfl,rfl⟩
theorem Del_any (n:Int) (B b c m:Nat) (gs:List Gp) (w:World) (hm:gs.length=m) (hm1:m≤481) (hc:m≤c) (hcells:∀ j x,(gs.map encG)[j]?=some x→w.cell? ⟨b,j,none⟩=some x) (hfr:∀ j,w.frozen? ⟨b,j,none⟩=false) (hB:w.cell? ⟨B,0,none⟩=some (.int .i64 n)) (hne:B≠b) :
    Calls Tryz.prog 177 #[.slice (some ⟨b,0,none⟩) m c,.func (.func 178) #[] #[.pointer (some ⟨B,0,none⟩)]] w
      fun e w'=>e=.returned (.slice (some ⟨b,0,none⟩) (bigs gs n).length c)∧(∀ (j:Nat) (x:Gp),(bigs gs n)[j]?=some x→w'.cell? ⟨b,0+j,none⟩=some (encG x))∧w'.cell? ⟨B,0,none⟩=some (.int .i64 n)∧Below b w w':=by
  have hH:=holds_of hcells hfr
  have hsz:gs.toArray.size=m:=by simpa using hm
  have hBl:=World.block_lt_of_cell? _ _ hB
  have eg:∀ args w,(callFunc 178 args).run Tryz.prog w=.ok (.enter 178 args) w:=enters_of Tryz.func178 (by kernel_rfl) rfl
  have hP:PredAt Tryz.prog 178 #[.pointer (some ⟨B,0,none⟩)] encG (fun z=>decide (((numG z).2:Int) < n)) w:=
    fun W x hb=>small_any x n B W ((hb.cell (p:=⟨B,0,none⟩) hBl).trans hB)
  have hO:PredOver Tryz.prog 178 #[.pointer (some ⟨B,0,none⟩)] encG (fun z=>decide (((numG z).2:Int) < n)) b 0 gs.toArray.size w:=
    fun k os dk x _=>small_any x n B _ (by
      unfold sortWorld
      rw [Sort.cell?_grow _ _ _ (by show B < (Sort.putRow _ _ _ _ _).heap.size;rw [Sort.size_putRow];exact hBl),Sort.cell?_putRow_other _ _ b 0 _ _ (Or.inl hne)]
      exact hB)
  have h:=AnyE.slices_DeleteFunc (P:=Tryz.prog) (ρ:=delL_ren) delL encG (fun _=>rfl) (fun z=>decide (((numG z).2:Int) < n)) 178 #[.pointer (some ⟨B,0,none⟩)] eg zeroG Tryz.zeroValue97 b 0 c gs.toArray w hP hO hH (by omega) (by omega)
  change Calls Tryz.prog 177 _ _ _ at h
  rw [hsz] at h
  refine h.mono ?_
  rintro e w' ⟨rfl,q,rfl⟩
  have hk:(bigs gs n).length≤m:=by rw [← hm];exact List.length_filter_le _ _
  refine ⟨rfl,fun j x hj=>?_,?_,below_put (show Below b w (Sort.ahead w q) from ⟨rfl,rfl,rfl,Nat.le_refl _,fun _ _=>rfl⟩) encG (Nat.le_refl _) 0 _⟩
  · have hjl:=(List.getElem?_eq_some_iff.1 hj).1
    have hl:(bigs gs n ++ List.replicate (m - (bigs gs n).length) zeroG).toArray.size=gs.toArray.size:=by simp;omega
    refine (Sort.cell?_putRow encG (Sort.ahead w q) b 0 gs.toArray _ (Sort.holds_ahead encG w q b 0 _ hH) hl j (by rw [hl];simp;omega)).trans ?_
    have e:(bigs gs n ++ List.replicate (m - (bigs gs n).length) zeroG)[j]?=some x:=by rw [List.getElem?_append_left hjl];exact hj
    exact congrArg (fun z=>some (encG z)) (get_bang e)
  · rw [Sort.cell?_putRow_other _ _ b 0 _ _ (Or.inl hne)]
    exact hB
set_option maxRecDepth 100000 in
set_option maxHeartbeats 1600000 in
theorem one_any (g:Nat) (cf:Gp→Gp→Int) (hc:Cmps g cf) (eg:∀ args w,(callFunc g args).run Tryz.prog w=.ok (.enter g args) w) (sel:List (Nat × Nat)→Nat→Option (Nat × Nat)) (hsel:Picks sel cf)
    (ao:Option Addr) (len cap:Nat) (zs:List Int) (n p q:Int) (w:World) (hA:Arg w ao len cap zs) (hp:-9223372036854775808≤p∧p≤9223372036854775807) (hq:-9223372036854775808≤q∧q≤9223372036854775807) :
    Calls Tryz.prog 121 #[.slice ao len cap,.int .i64 n,.int .i64 p,.int .i64 q,.func (.func g) #[] #[]] w
      (HandedRun w.heap.size w (pickOut (gapErr len n p q) (sel (downOut zs p q) n.toNat) n.toNat) (pickErr (gapErr len n p q) (sel (downOut zs p q) n.toNat))):=by
  have HB0:Hid (Below w.heap.size w (w.alloc (.cells #[.int .i64 n] 3))):=Lib.hid ((Below.refl _ _).alloc (Nat.le_refl _) _)
  have c:=cgaps_any ao len cap zs n p q _ (hA.later HB0.out) hp hq
  have HR:=Lib.hid (Rise.pairs (down_rise zs p q))
  have HM:=Lib.hid (down_bound (zs:=zs) (lo:=p) (hi:=q))
  have hlen:=down_length zs p q
  have hok:=gap_ok (len:=len) (n:=n) (lo:=p) (hi:=q)
  have hcell:(w.alloc (.cells #[.int .i64 n] 3)).cell? ⟨w.heap.size,0,none⟩=some (.int .i64 n):=by simp
  have hsize:(w.alloc (.cells #[.int .i64 n] 3)).heap.size=w.heap.size+1:=by simp
  have HC:=Lib.hid hc
  have HS:=Lib.hid hsel
  clear hA hc hsel
  generalize downOut zs p q=l at *
  generalize gapErr len n p q=E at *
  by_cases hE:E=0
  · obtain ⟨hn1,hn2⟩:=hok hE
    obtain ⟨k,hk⟩:∃ k:Nat,n=k:=⟨n.toNat,by omega⟩
    subst hk
    rw [if_pos hE,hE] at c
    rw [hE]
    rw [show Int.toNat (k:Int)=k by omega]
    have hk1:1≤k:=by omega
    clear hE hok hp hq
    go_enter Tryz.func121,Tryz.ntmps121
    go_wp2_with fail
    refine c.mono ?_
    rintro e w2 ⟨v1,xs,rfl,hf1,hs1,hb1⟩
    obtain ⟨gs,g1,g2⟩:=gps_of hs1 (fun x hx=>⟨(HM.out x hx).1,(HM.out x hx).2.1⟩)
    have HG2:=Lib.hid g2
    have hB2:=(hb1.cell (p:=⟨w.heap.size,0,none⟩) (by rw [hsize];show w.heap.size < _;omega)).trans hcell
    have HB2:Hid (Below w.heap.size w w2):=Lib.hid (HB0.out.trans (hb1.mono (by rw [hsize];omega)))
    have hsel:=HS.out gs k (by rw [g2];exact HR.out)
    rw [g2] at hsel
    have HSL:=Lib.hid hsel
    clear hsel
    have hgl:gs.length≤481:=by
      have:(gs.map numG).length=l.length:=by rw [g2]
      rw [List.length_map] at this
      omega
    rw [hsize] at hf1
    clear hs1 hb1 c hcell g2 hlen
    by_cases h0:gs=[]
    · subst h0
      have HP:Hid (pickOut 0 (sel l k) k=(0,0)∧pickErr 0 (sel l k)=6):=Lib.hid (by rw [show sel l k=none from HSL.out];exact ⟨rfl,rfl⟩)
      rw [← g1] at hf1
      obtain ⟨ao1,c1,hv1,_,_,_⟩:=hf1
      rw [hv1]
      have cD:=Del_none ao1 c1 (.func (.func 178) #[] #[.pointer (some ⟨w.heap.size,0,none⟩)]) w2
      clear hv1 g1 hgl
      simp only [List.map_nil,List.length_nil]
      go_wp2_with fail
      refine cD.mono ?_
      rintro e w3 ⟨rfl,rfl⟩
      go_wp2_with fail
      go_ret2
      rw [HP.out.1,HP.out.2]
      exact ⟨0,0,rfl,fi_zero,fi_zero,HB2.out⟩
    · obtain ⟨b,c2,hv1,hcap,hO⟩:=ownV_of_fresh (w0:=w2) hf1 (Below.refl _ _) (by rw [← g1];simpa using h0)
      have hbge:=hO.2.2.1
      rw [← g1,List.length_map] at hv1 hcap
      have cD:=Del_any k w.heap.size b c2 gs.length gs w2 rfl hgl hcap (by rw [g1];exact hO.1) hO.2.1 hB2 (by omega)
      rw [hv1]
      have HGE:Hid (w.heap.size≤b):=Lib.hid (by omega)
      have HBG:=Lib.hid (fun x hx=>(HM.out (numG x) (by rw [← HG2.out];exact List.mem_map_of_mem (f:=numG) hx)).1:∀ x ∈ gs,(numG x).1+(numG x).2≤480)
      have hbl:(bigs gs k).length≤481:=Nat.le_trans (List.length_filter_le _ _) hgl
      generalize gs.length=m at cD ⊢
      clear hv1 hcap hO hf1 g1 hbge hgl hB2 hsize
      go_wp2_with fail
      refine cD.mono ?_
      rintro e w3 ⟨rfl,hc3,hB3,hb3⟩
      have HB3:Hid (Below w.heap.size w w3):=Lib.hid (HB2.out.trans (hb3.mono HGE.out))
      clear hb3 cD
      have hsel:=HSL.out
      clear HSL
      cases hbs:bigs gs k with
      | nil=>
        rw [hbs] at hsel
        have HP:Hid (pickOut 0 (sel l k) k=(0,0)∧pickErr 0 (sel l k)=6):=Lib.hid (by rw [show sel l k=none from hsel];exact ⟨rfl,rfl⟩)
        clear hsel hc3 hB3 hbs hbl
        simp only [List.length_nil]
        go_wp2_with fail
        go_ret2
        rw [HP.out.1,HP.out.2]
        exact ⟨0,0,rfl,fi_zero,fi_zero,HB3.out⟩
      | cons x r=>
        rw [hbs] at hsel hc3
        obtain ⟨z,hz⟩:∃ z,z=r.foldl (stepG cf) x:=⟨_,rfl⟩
        have hsel:sel l k=some (numG (r.foldl (stepG cf) x)):=hsel
        rw [← hz] at hsel
        have HP:Hid (pickOut 0 (sel l k) k=((numG z).1,k)∧pickErr 0 (sel l k)=0):=Lib.hid (by rw [hsel];exact ⟨rfl,rfl⟩)
        have hzm:z ∈ bigs gs k:=by rw [hbs,hz];exact fold_mem cf r x
        have hzk:k≤(numG z).2:=by
          have:=(List.mem_filter.1 hzm).2
          simp at this
          omega
        have hzb:=HBG.out z (List.mem_filter.1 hzm).1
        have hlen3:(x::r).length≤481:=by
          rw [← hbs]
          exact hbl
        obtain ⟨u,v,cC⟩:=Cut_any _ _ _ _ k (gp_fst z) (gp_snd z) hk1 hzk hzb
        have cM:∀ q,Calls Tryz.prog 180 #[.slice (some ⟨b,0,none⟩) (x::r).length c2,.func (.func g) #[] #[]] (w3.drewN q) fun e w'=>e=.returned (encG z)∧w'=w3.drewN q:=fun q=>
          (Min_any g cf HC.out eg b 0 c2 _ x r (w3.drewN q) rfl hlen3 hc3).mono (by rintro e w' ⟨rfl,rfl⟩;exact ⟨by rw [hz],rfl⟩)
        have hl0:(((x::r).length:Int) == 0)=false:=by simp;omega
        have hzf:FI (floatOfInt .f64 ((numG z).1:Int)) ((numG z).1:Int):=fi_ofInt _ (by omega)
        have hkf:FI (floatOfInt .f64 (k:Int)) (k:Int):=fi_ofInt _ (by omega)
        have HZF:=Lib.hid hzf
        have HKF:=Lib.hid hkf
        generalize (x::r).length=m3 at *
        unfold encG at cM
        clear hsel hc3 hbs hbl hz hzm hzk hzb hlen3 hzf hkf
        go_wp2_with fail
        go_quiet (first | (go_at_call 180;refine Calls.quiet_of_same (cM _)) | (go_at_call 179;refine Calls.quiet_of_same (cC _)))
        go_wp2_with fail
        go_ret2
        rw [HP.out.1,HP.out.2]
        exact ⟨_,_,rfl,HZF.out,HKF.out,below_drewN HB3.out _⟩
  · have hE':=hE
    rw [if_neg hE] at c
    have HP:Hid (pickOut E (sel l n.toNat) n.toNat=(0,0)∧pickErr E (sel l n.toNat)=E):=Lib.hid ⟨by unfold pickOut;rw [if_neg hE],by unfold pickErr;rw [if_neg hE]⟩
    rw [HP.out.1,HP.out.2]
    have hne:(E == 0)=false:=by simp;exact hE
    clear hE hE' hok hp hq hlen
    go_enter Tryz.func121,Tryz.ntmps121
    go_wp2_with fail
    refine c.mono ?_
    rintro e w2 ⟨v1,xs,rfl,hf1,hs1,hb1⟩
    have HB2:Hid (Below w.heap.size w w2):=Lib.hid (HB0.out.trans (hb1.mono (by rw [hsize];omega)))
    clear hf1 hs1 hb1 c hcell hsize
    go_wp2_with fail
    go_ret2
    exact ⟨0,0,rfl,fi_zero,fi_zero,HB2.out⟩
theorem cTight_any (ao:Option Addr) (len cap:Nat) (zs:List Int) (n p q:Int) (w:World) (hA:Arg w ao len cap zs) (_hn:-9223372036854775808≤n∧n≤9223372036854775807) (hp:-9223372036854775808≤p∧p≤9223372036854775807) (hq:-9223372036854775808≤q∧q≤9223372036854775807) :
    Calls Tryz.prog 73 #[.slice ao len cap,.int .i64 n,.int .i64 p,.int .i64 q] w
      (HandedRun w.heap.size w (pickOut (gapErr len n p q) (tightGap (downOut zs p q) n.toNat) n.toNat) (pickErr (gapErr len n p q) (tightGap (downOut zs p q) n.toNat))):=by
  have c:=one_any 122 byCount tight_cmp (enters_of Tryz.func122 (by kernel_rfl) rfl) tightGap tight_picks ao len cap zs n p q w hA hp hq
  generalize pickOut (gapErr len n p q) (tightGap (downOut zs p q) n.toNat) n.toNat=X at *
  generalize pickErr (gapErr len n p q) (tightGap (downOut zs p q) n.toNat)=E at *
  clear hA hp hq
  go_enter Tryz.func73,Tryz.ntmps73
  go_wp2_with fail
  refine c.mono ?_
  rintro e w2 ⟨x,y,rfl,fx,fy,hb⟩
  have HX:=Lib.hid (And.intro fx (And.intro fy hb))
  clear fx fy hb c
  go_wp2_with fail
  go_ret2
  exact ⟨_,_,rfl,HX.out.1,HX.out.2.1,HX.out.2.2⟩
end Go.Proofs.YtcefmpnijjcekaaGreatDoor
namespace Go.Proofs.YtcefmpnijjcekaaGreatDoor
open Go.RowKit
open Go.Sort (swp SWO PermIn SortedIn size_swp insertionSort)
theorem lt_rest (x y:Gp):ltOf byRest x y=decide ((numG y).2 < (numG x).2):=by
  unfold ltOf byRest
  rw [decide_eq_decide]
  exact cmpN_neg _ _
theorem lt_first (x y:Gp):ltOf byFirst x y=decide ((numG x).1 < (numG y).1):=by
  unfold ltOf byFirst
  rw [decide_eq_decide]
  exact cmpN_neg _ _
theorem swo_rest:SWO (ltOf byRest) where
  irrefl x:=by rw [lt_rest];simp
  trans x y z h1 h2:=by rw [lt_rest] at *;simp at *;omega
  ntrans x y z h1 h2:=by rw [lt_rest] at *;simp at *;omega
theorem swo_first:SWO (ltOf byFirst) where
  irrefl x:=by rw [lt_first];simp
  trans x y z h1 h2:=by rw [lt_first] at *;simp at *;omega
  ntrans x y z h1 h2:=by rw [lt_first] at *;simp at *;omega
def Before (x y:Gp):Prop:=(numG x).1 < (numG y).1
theorem bang_of {D:Array Gp} {i:Nat} (h:i < D.toList.length):D[i]! = D.toList[i]:=by
  rw [getElem!_pos D i (by simpa using h)]
  simp
theorem perm_list {N:Nat} {gs:List Gp} {D:Array Gp} (hN:gs.length=N) (hp:PermIn 0 N gs.toArray D):D.toList.Perm gs:=by
  have h:=hp.2.2
  have h1:D.size=N:=by rw [hp.1];simpa using hN
  have e1:D.extract 0 N=D:=by rw [← h1];simp
  have e2:gs.toArray.extract 0 N=gs.toArray:=by rw [← hN];simp
  rw [e1,e2] at h
  simpa using h
theorem stands_gp:∀ gs:List Gp,Stands (gs.map encG) (gs.map numG):=fun gs=>by
  refine ⟨by simp,fun j x p hx hp=>?_⟩
  rw [List.getElem?_map] at hx hp
  cases hz:gs[j]? with
  | none=>rw [hz] at hx;cases hx
  | some z=>
    rw [hz] at hx hp
    cases hx
    cases hp
    exact ⟨_,_,rfl,gp_fst z,gp_snd z⟩
theorem stab_start {gs:List Gp} (hr:(gs.map numG).Pairwise (fun a b=>a.1+a.2 < b.1)):Stab (ltOf byRest) Before gs.toArray:=by
  intro i j hij hj _ _
  have hj':j < gs.length:=by simpa using hj
  have h:=List.pairwise_iff_getElem.1 hr i j (by rw [List.length_map];omega) (by rw [List.length_map];omega) hij
  rw [List.getElem_map,List.getElem_map] at h
  unfold Before
  rw [get_bang (List.getElem?_eq_getElem (show i < gs.length by omega)),get_bang (List.getElem?_eq_getElem hj')]
  omega
theorem stable_list {N:Nat} {gs:List Gp} {D:Array Gp} (hN:gs.length=N) (hp:PermIn 0 N gs.toArray D) (hs:SortedIn (ltOf byRest) 0 N D) (ht:Stab (ltOf byRest) Before D):D.toList.map numG=byLen (gs.map numG):=by
  have hpl:=perm_list hN hp
  have hlen:D.toList.length=N:=by rw [hpl.length_eq,hN]
  have hT:(D.toList.map numG).Pairwise (fun a b=>aheadB a b=true):=by
    rw [List.pairwise_iff_getElem]
    intro i j hi hj hij
    rw [List.length_map] at hi hj
    rw [List.getElem_map,List.getElem_map]
    have h1:=hs i j (Nat.zero_le _) hij (by omega)
    have h2:=ht i j hij (by simpa using hj) h1
    rw [bang_of hi,bang_of hj,lt_rest] at h1 h2
    unfold aheadB
    rw [decide_eq_true_iff]
    unfold Before at h2
    simp only [decide_eq_false_iff_not] at h1 h2
    by_cases e:(numG D.toList[j]).2 < (numG D.toList[i]).2
    · exact Or.inl e
    · have:=h2 (by omega)
      exact Or.inr ⟨by omega,by omega⟩
  have hperm:(D.toList.map numG).Perm (byLen (gs.map numG)):=(hpl.map numG).trans (byLen_perm _).symm
  refine List.Perm.eq_of_pairwise (le:=fun a b=>aheadB a b=true) (fun a b _ _ h1 h2=>ahead_anti h1 h2) hT (byLen_sorted _) hperm
theorem first_list {N k:Nat} {l:List (Nat × Nat)} {gs:List Gp} {D:Array Gp} (hr:l.Pairwise (fun a b=>a.1+a.2 < b.1)) (hg:gs.map numG=cutAt (byLen l) k) (hN:gs.length=N) (hp:PermIn 0 N gs.toArray D) (hs:SortedIn (ltOf byFirst) 0 N D):D.toList.map numG=someOf l k:=by
  have hpl:=perm_list hN hp
  have hlen:D.toList.length=N:=by rw [hpl.length_eq,hN]
  refine sorted_some hr (by rw [← hg];exact hpl.map numG) ?_
  intro a b p q hab hb hpa hqb
  rw [List.length_map] at hb
  have ha':a < D.toList.length:=by omega
  rw [List.getElem?_map,List.getElem?_eq_getElem ha'] at hpa
  rw [List.getElem?_map,List.getElem?_eq_getElem hb] at hqb
  cases hpa
  cases hqb
  have h1:=hs a b (Nat.zero_le _) hab (by omega)
  rw [bang_of ha',bang_of hb,lt_first] at h1
  simpa using h1
theorem below_sorted {B:Nat} {w w':World} {blk off:Nat} {D:Array Gp} (hB:B≤blk) (hw:blk < w.heap.size) (h:SW encG w blk off D w'):Below B w w':=by
  obtain ⟨n,os,rfl⟩:=h
  have h1:Below B w (Sort.putRow encG (Sort.ahead w n) blk off D):=below_put (show Below B w (Sort.ahead w n) from ⟨rfl,rfl,rfl,Nat.le_refl _,fun _ _=>rfl⟩) encG hB off D
  refine h1.trans ⟨rfl,rfl,rfl,by show _≤(Sort.grow _ os).heap.size;rw [Sort.size_grow];exact Nat.le_add_right _ _,fun k hk=>Sort.heap_grow_old _ os (by rw [Sort.size_putRow];show k < w.heap.size;omega)⟩
theorem row_of {w:World} {g:Nat} {gs:List Gp} (h0:gs≠[]) (hO:OwnV w.heap.size w g (gs.map encG) w∨∃ base,base≤g∧(∀ j x,(gs.map encG)[j]?=some x→w.cell? ⟨g,j,none⟩=some x)∧∀ j,w.frozen? ⟨g,j,none⟩=false):Row1 encG w g 0 gs.toArray:=by
  have hx:(∀ j x,(gs.map encG)[j]?=some x→w.cell? ⟨g,j,none⟩=some x)∧∀ j,w.frozen? ⟨g,j,none⟩=false:=by
    rcases hO with h | ⟨_,_,h1,h2⟩
    · exact ⟨h.1,h.2.1⟩
    · exact ⟨h1,h2⟩
  refine ⟨fun _=>rfl,holds_of hx.1 hx.2,?_⟩
  have hpos:0 < gs.length:=List.length_pos_iff.2 h0
  exact World.block_lt_of_cell? _ _ (hx.1 0 (encG gs[0]) (by rw [List.getElem?_map,List.getElem?_eq_getElem hpos];rfl))
theorem vals_sorted {w w':World} {g m:Nat} {gs:List Gp} {D:Array Gp} (R:Row1 encG w g 0 gs.toArray) (hm:gs.length=m) (hm1:m≤481) (hz:D.size=m) (h:SW encG w g 0 D w'):Vals w' (some ⟨g,0,none⟩) m (D.toList.map encG)∧∀ j,j < m→w'.frozen? ⟨g,j,none⟩=false:=by
  have hH:=h.holds R.hblk R.hH (by rw [hz];simpa using hm.symm)
  refine ⟨⟨by simpa using hz,by omega,Or.inr ⟨g,0,rfl,fun j x hj=>?_⟩⟩,fun j hj=>by have:=(hH j (by omega)).2;rwa [Nat.zero_add] at this⟩
  rw [List.getElem?_map] at hj
  cases hd:D.toList[j]? with
  | none=>rw [hd] at hj;cases hj
  | some z=>
    rw [hd] at hj
    cases hj
    obtain ⟨hjl,e⟩:=List.getElem?_eq_some_iff.1 hd
    rw [(hH j (by simpa using hjl)).1,bang_of hjl,e]
set_option maxRecDepth 100000 in
set_option maxHeartbeats 800000 in
theorem ins_none (a:Option Addr) (c:Nat) (fv:Value) (w:World) :
    Calls Tryz.prog 216 #[.slice a 0 c,.int .i64 0,.int .i64 0,fv] w fun e w'=>e=.returned (.tuple #[])∧w=w':=by
  go_enter Tryz.func216,Tryz.ntmps216
  go_wp2_with fail
  go_loop [8] (fun iv=>iv=.int .i64 1) (fun _=>0)
  case atStart=>rfl
  case round=>
    subst hrel
    go_wp2_with fail
    go_end0
    exact ⟨rfl,rfl⟩
set_option maxRecDepth 100000 in
set_option maxHeartbeats 800000 in
theorem stable_none (a:Option Addr) (c:Nat) (fv:Value) (w:World) :
    Calls Tryz.prog 183 #[.slice a 0 c,.int .i64 0,fv] w fun e w'=>e=.returned (.tuple #[])∧w=w':=by
  have c1:=ins_none a c fv w
  go_enter Tryz.func183,Tryz.ntmps183
  go_wp2_with fail
  go_loop [7,8] (fun av bv=>av=.int .i64 0∧bv=.int .i64 20) (fun _ _=>0)
  case atStart=>exact ⟨rfl,rfl⟩
  case round=>
    obtain ⟨rfl,rfl⟩:=hrel
    go_wp2_with fail
    refine c1.mono ?_
    rintro e w' ⟨rfl,rfl⟩
    go_wp2_with fail
    go_loop [6] (fun sv=>sv=.int .i64 20) (fun _=>0)
    case atStart=>rfl
    case round=>
      subst hrel
      go_wp2_with fail
      go_end0
      exact ⟨rfl,rfl⟩
set_option maxHeartbeats 400000 in
theorem sort_stable_none (a:Option Addr) (c:Nat) (fv:Value) (w:World) :
    Calls Tryz.prog 126 #[.slice a 0 c,fv] w fun e w'=>e=.returned (.tuple #[])∧w=w':=by
  have c1:=stable_none a c fv w
  go_enter Tryz.func126,Tryz.ntmps126
  go_wp2_with fail
  refine c1.mono ?_
  rintro e w' ⟨rfl,rfl⟩
  go_wp2_with fail
  go_end0
  exact ⟨rfl,rfl⟩
theorem rest_sorted (base m:Nat) (gs:List Gp) (w:World) (v:Value) (hf:FreshV w base v (gs.map encG)) (hm:gs.length=m) (hm1:m≤481) (hr:(gs.map numG).Pairwise (fun a b=>a.1+a.2 < b.1)) :
    ∃ ao c,v=.slice ao m c∧Calls Tryz.prog 126 #[.slice ao m c,.func (.func 127) #[] #[]] w fun e w'=>e=.returned (.tuple #[])∧∃ ds:List Gp,ds.length=m∧ds.map numG=byLen (gs.map numG)∧(∀ z ∈ ds,z ∈ gs)∧Vals w' ao m (ds.map encG)∧Below base w w':=by
  by_cases h0:gs=[]
  · subst h0
    obtain ⟨ao,c,hv,hV,_,_⟩:=hf
    have hm0:m=0:=by rw [← hm];rfl
    subst hm0
    refine ⟨ao,c,hv,(sort_stable_none ao c _ w).mono ?_⟩
    rintro e w' ⟨rfl,rfl⟩
    exact ⟨rfl,[],rfl,by unfold byLen;simp,fun z hz=>by simp at hz,hV,Below.refl _ _⟩
  · obtain ⟨g,c,hv,hcap,hO⟩:=ownV_of_fresh (w0:=w) hf (Below.refl _ _) (by simpa using h0)
    rw [List.length_map,hm] at hv
    have R:Row1 encG w g 0 gs.toArray:=row_of h0 (Or.inr ⟨base,hO.2.2.1,hO.1,hO.2.1⟩)
    have eg:∀ args w,(callFunc 127 args).run Tryz.prog w=.ok (.enter 127 args) w:=enters_of Tryz.func127 (by kernel_rfl) rfl
    refine ⟨some ⟨g,0,none⟩,c,hv,(sort_stable_any 127 byRest rest_cmp eg swo_rest Before g 0 c m gs.toArray w R (by simpa using hm) hm1 (stab_start hr)).mono ?_⟩
    rintro e w' ⟨rfl,D,hp,ho,ht,hS⟩
    have hpl:=perm_list hm hp
    have hz:D.size=m:=by rw [hp.1];simpa using hm
    exact ⟨rfl,D.toList,by simpa using hz,stable_list hm hp ho ht,fun z hz=>hpl.mem_iff.1 hz,(vals_sorted R hm hm1 hz hS).1,below_sorted hO.2.2.1 R.hblk hS⟩
theorem last_sorted (base m k:Nat) (l:List (Nat × Nat)) (gs:List Gp) (w:World) (v:Value) (hf:FreshV w base v (gs.map encG)) (h0:gs≠[]) (hm:gs.length=m) (hm1:m≤481) (hr:l.Pairwise (fun a b=>a.1+a.2 < b.1)) (hg:gs.map numG=cutAt (byLen l) k) :
    ∃ g c,v=.slice (some ⟨g,0,none⟩) m c∧Calls Tryz.prog 129 #[.slice (some ⟨g,0,none⟩) m c,.func (.func 130) #[] #[]] w fun e w'=>e=.returned (.tuple #[])∧∃ xs,FreshV w' base (.slice (some ⟨g,0,none⟩) m c) xs∧Stands xs (someOf l k)∧Below base w w':=by
  obtain ⟨g,c,hv,hcap,hO⟩:=ownV_of_fresh (w0:=w) hf (Below.refl _ _) (by simpa using h0)
  rw [List.length_map,hm] at hv hcap
  have R:Row1 encG w g 0 gs.toArray:=row_of h0 (Or.inr ⟨base,hO.2.2.1,hO.1,hO.2.1⟩)
  have eg:∀ args w,(callFunc 130 args).run Tryz.prog w=.ok (.enter 130 args) w:=enters_of Tryz.func130 (by kernel_rfl) rfl
  have hsz:gs.toArray.size=m:=by simpa using hm
  have h:=Any.slices_SortFunc (P:=Tryz.prog) (ρ:=sortL_ren) sortL encG (fun _=>rfl) byFirst swo_first 130 #[] g 0 c gs.toArray w eg (cmps_lays last_cmp g 0 _ w) R.hH R.hblk (by omega)
  change Calls Tryz.prog 129 _ _ _ at h
  rw [hsz] at h
  refine ⟨g,c,hv,h.mono ?_⟩
  rintro e w' ⟨rfl,D,n,os,hp,ho,hw⟩
  have hS:SW encG w g 0 D w':=⟨n,os,hw⟩
  have hz:D.size=m:=by rw [hp.1];exact hsz
  obtain ⟨hV,hfr⟩:=vals_sorted R hm hm1 hz hS
  have hl:(D.toList.map encG).length=m:=by simpa using hz
  refine ⟨rfl,D.toList.map encG,⟨some ⟨g,0,none⟩,c,by rw [hl],by rw [hl];exact hV,by rw [hl];exact hcap,Or.inr ⟨g,rfl,hO.2.2.1,fun j=>?_⟩⟩,?_,below_sorted hO.2.2.1 R.hblk hS⟩
  · obtain ⟨n,os,rfl⟩:=hS
    unfold sortWorld
    rw [Sort.frozen?_grow _ _ _ (by show g < (Sort.putRow _ _ _ _ _).heap.size;rw [Sort.size_putRow];exact R.hblk),Sort.frozen?_putRow]
    exact hO.2.1 j
  · rw [← first_list hr hg hm hp ho]
    exact stands_gp _
theorem cut_length:∀ (l:List (Nat × Nat)) (k:Nat),(cutAt l k).length≤l.length
  | [],_=>Nat.le_refl _
  | p::r,k=>by
    show (if k=0 then [] else if k≤p.2 then [(p.1,k)] else p::cutAt r (k - p.2)).length≤_
    have ih:=cut_length r (k - p.2)
    split
    · simp
    · split
      · simp
      · simpa using ih
set_option maxRecDepth 100000 in
set_option maxHeartbeats 1600000 in
theorem cSome_any (ao:Option Addr) (len cap:Nat) (zs:List Int) (n p q:Int) (w:World) (hA:Arg w ao len cap zs) (_hn:-9223372036854775808≤n∧n≤9223372036854775807) (hp:-9223372036854775808≤p∧p≤9223372036854775807) (hq:-9223372036854775808≤q∧q≤9223372036854775807) :
    Calls Tryz.prog 76 #[.slice ao len cap,.int .i64 n,.int .i64 p,.int .i64 q] w
      (HandedRuns w.heap.size w (someOut (gapErr len n p q) (downOut zs p q) n.toNat) (someErr (gapErr len n p q) (downOut zs p q) n.toNat)):=by
  have c:=cgaps_any ao len cap zs n p q w hA hp hq
  have HR:=Lib.hid (Rise.pairs (down_rise zs p q))
  have HM:=Lib.hid (down_bound (zs:=zs) (lo:=p) (hi:=q))
  have hlen:=down_length zs p q
  have hok:=gap_ok (len:=len) (n:=n) (lo:=p) (hi:=q)
  clear hA
  generalize downOut zs p q=l at *
  generalize gapErr len n p q=E at *
  by_cases hE:E=0
  · obtain ⟨hn1,hn2⟩:=hok hE
    obtain ⟨k,hk⟩:∃ k:Nat,n=k:=⟨n.toNat,by omega⟩
    subst hk
    rw [if_pos hE,hE] at c
    rw [hE]
    rw [show Int.toNat (k:Int)=k by omega]
    have hk1:1≤k:=by omega
    have hk2:k≤480:=by omega
    clear hE hok hp hq _hn
    go_enter Tryz.func76,Tryz.ntmps76
    go_wp2_with fail
    refine c.mono ?_
    rintro e w2 ⟨v1,xs,rfl,hf1,hs1,hb1⟩
    obtain ⟨gs,g1,g2⟩:=gps_of hs1 (fun x hx=>⟨(HM.out x hx).1,(HM.out x hx).2.1⟩)
    have HG2:=Lib.hid g2
    have HB2:=Lib.hid hb1
    have hgl:gs.length≤481:=by
      have:(gs.map numG).length=l.length:=by rw [g2]
      rw [List.length_map] at this
      omega
    rw [← g1] at hf1
    obtain ⟨ao1,c1,hv1,cS⟩:=rest_sorted w.heap.size gs.length gs w2 v1 hf1 rfl hgl (by rw [g2];exact HR.out)
    have HGL : Hid (gs.length = l.length) := Lib.hid (by have:(gs.map numG).length=l.length:=by rw [g2]
                                                         rwa [List.length_map] at this)
    rw [g2] at cS
    rw [hv1]
    generalize gs.length=m at *
    clear hv1 hf1 hs1 hb1 c g1 g2 hlen
    go_wp2_with fail
    refine cS.mono ?_
    rintro e w3 ⟨rfl,ds,d1,d2,d3,d4,d5⟩
    have HB3:Hid (Below w.heap.size w w3):=Lib.hid (HB2.out.trans d5)
    have hz1:∀ z ∈ ds,1≤(numG z).2:=fun z hz=>(HM.out (numG z) (by rw [← HG2.out];exact List.mem_map_of_mem (f:=numG) (d3 z hz))).2.1
    have cT:=take_any ao1 c1 m k ds w3 d4 hgl hz1 hk2
    have hsum:sumG (byLen l)=sumG l:=sumG_perm (byLen_perm l)
    rw [d2,hsum] at cT
    clear cS d3 d4 d5 d1 d2 hz1 hsum
    go_wp2_with fail
    refine cT.mono ?_
    rintro e w4 ⟨v4,rfl,hf4,hb4⟩
    have HB4:Hid (Below w.heap.size w w4):=Lib.hid (HB3.out.trans (hb4.mono HB3.out.size))
    have hf4':=hf4.mono HB3.out.size
    clear cT hf4 hb4
    by_cases hlt:sumG l < k
    · have HS:Hid (someOut 0 l k=[]∧someErr 0 l k=6):=Lib.hid ⟨by unfold someOut;rw [if_neg (by omega)],by unfold someErr;rw [if_pos rfl,if_pos hlt]⟩
      have hz:(0:Int) < ((k - sumG l:Nat):Int):=by omega
      generalize ((k - sumG l:Nat):Int)=z at *
      obtain ⟨ao4,c4,hv4,_,_,_⟩:=hf4'
      rw [hv4]
      clear hv4 hlt
      go_wp2_with fail
      go_ret2
      rw [HS.out.1,HS.out.2]
      exact ⟨_,[],rfl,FreshV.nil _ _,stands_nil,HB4.out⟩
    · have HS:Hid (someOut 0 l k=someOf l k∧someErr 0 l k=0):=Lib.hid ⟨by unfold someOut;rw [if_pos ⟨rfl,by omega⟩],by unfold someErr;rw [if_pos rfl,if_neg hlt]⟩
      have hz:((k - sumG l:Nat):Int)=0:=by omega
      rw [hz]
      have hbl:∀ x ∈ cutAt (byLen l) k,x.1+x.2≤480∧1≤x.2:=fun x hx=>by
        obtain ⟨y,hy,e1,e2,e3⟩:=cut_mem (byLen l) k (fun y hy=>(HM.out y ((byLen_perm l).mem_iff.1 hy)).2.1) x hx
        have:=(HM.out y ((byLen_perm l).mem_iff.1 hy)).1
        omega
      obtain ⟨ts,t1,t2⟩:=gps_of (stands_cV (fun x hx=>(hbl x hx).1)) hbl
      have ht0:ts≠[]:=by
        intro h
        have hs:=cut_sum (byLen l) k (by rw [sumG_perm (byLen_perm l)];omega)
        rw [← t2,h] at hs
        have:(0:Nat)=k:=hs
        omega
      have htl:ts.length≤481:=by
        have e1:(ts.map numG).length=(cutAt (byLen l) k).length:=by rw [t2]
        rw [List.length_map] at e1
        have e2:=cut_length (byLen l) k
        have e3:(byLen l).length=l.length:=(byLen_perm l).length_eq
        have:=HGL.out
        omega
      rw [← t1] at hf4'
      obtain ⟨g,c4,hv4,cL⟩:=last_sorted w.heap.size ts.length k l ts w4 v4 hf4' ht0 rfl htl HR.out t2
      rw [hv4]
      generalize ts.length=m2 at *
      clear hv4 hf4' t1 t2 ht0 htl hbl hz hlt
      go_wp2_with fail
      refine cL.mono ?_
      rintro e w5 ⟨rfl,ys,hf5,hs5,hb5⟩
      have HF5:=Lib.hid (And.intro hf5 (And.intro hs5 (HB4.out.trans hb5)))
      clear cL hf5 hs5 hb5
      go_wp2_with fail
      go_ret2
      rw [HS.out.1,HS.out.2]
      exact ⟨_,ys,rfl,HF5.out.1,HF5.out.2.1,HF5.out.2.2⟩
  · rw [if_neg hE] at c
    have HS:Hid (someOut E l n.toNat=[]∧someErr E l n.toNat=E):=Lib.hid ⟨by unfold someOut;rw [if_neg (fun h=>hE h.1)],by unfold someErr;rw [if_neg hE]⟩
    have hne:(E == 0)=false:=by simp;exact hE
    clear hE hok hp hq hlen _hn
    go_enter Tryz.func76,Tryz.ntmps76
    go_wp2_with fail
    refine c.mono ?_
    rintro e w2 ⟨v1,xs,rfl,hf1,hs1,hb1⟩
    have HB2:=Lib.hid hb1
    obtain ⟨ao1,c1,hv1,_,_,_⟩:=hf1
    rw [hv1]
    clear hv1 hs1 hb1 c
    go_wp2_with fail
    go_ret2
    rw [HS.out.1,HS.out.2]
    exact ⟨_,[],rfl,FreshV.nil _ _,stands_nil,HB2.out⟩
end Go.Proofs.YtcefmpnijjcekaaGreatDoor
