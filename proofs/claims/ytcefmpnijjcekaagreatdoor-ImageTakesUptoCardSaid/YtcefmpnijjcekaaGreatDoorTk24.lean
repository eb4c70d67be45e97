/- Proved here: what the document's own reading of blocks of Supers and Heads (drydockref08: Decode, GetHead) answers. The conditions stand at each theorem. Proved here: what the document's own reckoning of sealed blocks (drydockref04: Put, Seal, Sealed) answers. The conditions stand at each theorem. Proved here: what the document's own Open of layer 17 answers of any blocks. .. -/
import Derived.Test.YtcefmpnijjcekaaGreatDoorTk23
import Derived.Laws.ResultCell
import Derived.Deep.RegionHeld
import Derived.Test.YtcefmpnijjcekaaGreatDoorTk12
import Derived.Test.YtcefmpnijjcekaaGreatDoorTk1
import Derived.Deep.RegionWith
import Derived.Deep.QuietTactic
import Derived.BigQuiet
import Derived.Test.YtcefmpnijjcekaaGreatDoorTk8
import Derived.Test.YtcefmpnijjcekaaGreatDoorTk20
set_option linter.unusedVariables false
set_option linter.unusedSimpArgs false
namespace Go.Proofs.YtcefmpnijjcekaaGreatDoor
open Go.RowKit
theorem num04 {w:World} {ao:Option Addr} {len cap:Nat} {zs:List Int} {pz kz:Int} (hB:Bts w ao len zs) (hk:kz.toNat≤4) (hpk:pz.toNat+kz.toNat≤len) (h0:0≤pz∧0≤kz) :
    Calls Tryz.prog 51 #[.slice ao len cap,.int .i64 pz,.int .i64 kz] w fun e w'=>e=.returned (.int .i64 (leN zs pz.toNat kz.toNat))∧w'=w:=by
  obtain ⟨p,rfl⟩:=Int.eq_ofNat_of_zero_le h0.1
  obtain ⟨k,rfl⟩:=Int.eq_ofNat_of_zero_le h0.2
  exact (Num04_any ao len cap zs p k w hB hk hpk).mono (fun e w' h=>⟨h.1,h.2.symm⟩)
theorem byte_at {zs:List Int} {n:Nat} (hz:∀ z ∈ zs,0≤z∧z≤255) (hl:zs.length=n) {k:Nat} (hk:k < n):IntKind.i64.wrap (zs.getD k 0)=zs.getD k 0∧i64w (zs.getD k 0):=by
  have h:=hz _ (getD_mem (l:=zs) (k:=k) (by omega))
  exact ⟨by rw [IntKind.wrap_i64];omega,by unfold i64w;omega⟩
theorem leN_in {zs:List Int} (hz:∀ z ∈ zs,0≤z∧z≤255) {p k:Nat} (h:p+k≤zs.length) (hk:k≤4):i64w (leN zs p k):=by
  have:=leN_four hz p k h hk
  unfold i64w
  omega
theorem two_made {w w5:World} {T:TypeId} {c0 c1:Array Value} (hb:Below (((w.alloc (.cells c0 T)).alloc (.cells c1 T)).drew).heap.size (((w.alloc (.cells c0 T)).alloc (.cells c1 T)).drew) w5) :
    (∀ j v,c0[j]?=some v→w5.cell? ⟨w.heap.size,j,none⟩=some v)∧(∀ j,w5.frozen? ⟨w.heap.size,j,none⟩=false)∧(∀ j v,c1[j]?=some v→w5.cell? ⟨w.heap.size+1,j,none⟩=some v)∧Below w.heap.size w w5:=by
  have b1:Below (w.alloc (.cells c0 T)).heap.size (w.alloc (.cells c0 T)) w5:=(((Below.refl _ _).alloc (Nat.le_refl _) _).drew).trans (hb.mono (by simp))
  refine ⟨fun j v h=>cell_later b1 (by rw [World.cell?_alloc_new];exact h),fun j=>?_,fun j v h=>?_,(((Below.refl _ _).alloc (Nat.le_refl _) _).trans (b1.mono (by simp)))⟩
  · rw [b1.frozen (p:=⟨w.heap.size,j,none⟩) (by simp),World.frozen?_alloc_mark]
    simp
  · refine cell_later hb ?_
    show ((w.alloc (.cells c0 T)).alloc (.cells c1 T)).cell? ⟨w.heap.size+1,j,none⟩=some v
    rw [← World.size_alloc w (.cells c0 T),World.cell?_alloc_new]
    exact h
set_option maxHeartbeats 1600000 in
theorem dec08_any (ao:Option Addr) (len cap:Nat) (zs:List Int) (w:World) (hA:Arg w ao len cap zs):Calls Tryz.prog 21 #[.slice ao len cap] w fun e w'=>e=.returned (.tuple #[(getSup zs).val,.int .i64 (getSupErr zs)])∧Below w.heap.size w w':=by
  have hB:=hA.1
  by_cases h64:len=64
  case neg=>
    have hI:isSup zs=false:=by unfold isSup;rw [hB.1,decide_eq_false h64];rfl
    have HE:Hid (getSupErr zs=2∧getSup zs=noSup):=Lib.hid (by unfold getSupErr getSup;rw [hI];exact ⟨rfl,rfl⟩)
    have hne:((len:Int) == 64)=false:=by simp;omega
    have B0:Hid (Below w.heap.size w (w.alloc (.cells #[.int .i64 0,.int .i64 0,.int .i64 0,.int .i64 0,.int .i64 0] 36))):=Lib.hid ((Below.refl _ _).alloc (Nat.le_refl _) _)
    clear hI hB hA
    go_enter Tryz.func21,Tryz.ntmps21
    go_wp2_with fail
    refine bodyPost_ret (v:=.tuple #[(noSup).val,.int .i64 2]) ?_ rfl ⟨by rw [HE.out.1,HE.out.2],B0.out⟩
    rw [results_cell_tmp rfl]
    go_simp
    try rfl
  subst h64
  have HB:=Lib.hid hB
  obtain ⟨g,off,rfl,hc⟩:=hB.2.2.2.resolve_left (by decide)
  have f6:=hc 6 (by decide)
  have hx6:=byte_at hB.2.2.1 hB.1 (k:=6) (by decide)
  obtain ⟨x6,HX6⟩:∃ x,Hid (zs.getD 6 0=x):=⟨_,Lib.hid rfl⟩
  rw [HX6.out] at f6 hx6
  obtain ⟨hw6,hj6⟩:=hx6
  have IX6:=Lib.hid hj6
  have HF6:=Lib.hid f6
  clear hj6
  have f7:=hc 7 (by decide)
  have hx7:=byte_at hB.2.2.1 hB.1 (k:=7) (by decide)
  obtain ⟨x7,HX7⟩:∃ x,Hid (zs.getD 7 0=x):=⟨_,Lib.hid rfl⟩
  rw [HX7.out] at f7 hx7
  obtain ⟨hw7,hj7⟩:=hx7
  have IX7:=Lib.hid hj7
  have HF7:=Lib.hid f7
  clear hj7
  have f8:=hc 8 (by decide)
  have hx8:=byte_at hB.2.2.1 hB.1 (k:=8) (by decide)
  obtain ⟨x8,HX8⟩:∃ x,Hid (zs.getD 8 0=x):=⟨_,Lib.hid rfl⟩
  rw [HX8.out] at f8 hx8
  obtain ⟨hw8,hj8⟩:=hx8
  have IX8:=Lib.hid hj8
  have HF8:=Lib.hid f8
  clear hj8
  have IN0:Hid (i64w (leN zs 4 2)):=Lib.hid (leN_in hB.2.2.1 (by rw [hB.1];decide) (by decide))
  have IN1:Hid (i64w (leN zs 10 2)):=Lib.hid (leN_in hB.2.2.1 (by rw [hB.1];decide) (by decide))
  have HS:Hid (readSup zs=(⟨leN zs 4 2,x6,x7,x8,leN zs 10 2⟩:PSup)):=Lib.hid (by unfold readSup;rw [HX6.out,HX7.out,HX8.out])
  have HK:Hid (∀ W,Below w.heap.size w W→W.cell? ⟨g,off+6,none⟩=some (.int .u8 x6)∧W.cell? ⟨g,off+7,none⟩=some (.int .u8 x7)∧W.cell? ⟨g,off+8,none⟩=some (.int .u8 x8)∧Hid (Below w.heap.size w W)):=Lib.hid (fun W h=>⟨cell_later h HF6.out,cell_later h HF7.out,cell_later h HF8.out,Lib.hid h⟩)
  have Bn:Hid (Below w.heap.size w (w.alloc (.cells #[.int .i64 0,.int .i64 0,.int .i64 0,.int .i64 0,.int .i64 0] 36))):=Lib.hid ((Below.refl _ _).alloc (Nat.le_refl _) _)
  have B0:=Lib.hid Bn.out.drew
  have B1:Hid (Below w.heap.size w ((w.alloc (.cells #[.int .i64 0,.int .i64 0,.int .i64 0,.int .i64 0,.int .i64 0] 36)).drew.alloc (.cells #[.int .i64 0,.int .i64 0,.int .i64 0,.int .i64 0,.int .i64 0] 36))):=Lib.hid (B0.out.alloc B0.out.size _)
  clear hB hA hc f6 f7 f8
  obtain ⟨E,O,hEO⟩:∃ E O,supErr (⟨leN zs 4 2,x6,x7,x8,leN zs 10 2⟩:PSup)=E∧supOut (⟨leN zs 4 2,x6,x7,x8,leN zs 10 2⟩:PSup)=O:=⟨_,_,rfl,rfl⟩
  have cE:=fun (W:World)=>enc08_any (⟨leN zs 4 2,x6,x7,x8,leN zs 10 2⟩:PSup) W ⟨IN0.out,IX6.out,IX7.out,IX8.out,IN1.out⟩
  rw [hEO.1,hEO.2] at cE
  have HEO:=Lib.hid hEO
  clear hEO
  have H3:Hid ((E=2∧getSupErr zs=2∧getSup zs=noSup)∨(E=0∧((str O).toList == (str zs).toList)=true∧getSupErr zs=0∧getSup zs=⟨leN zs 4 2,x6,x7,x8,leN zs 10 2⟩)∨(E=0∧((str O).toList == (str zs).toList)=false∧getSupErr zs=2∧getSup zs=noSup)):=Lib.hid (by
    obtain ⟨e1,e2⟩:=HEO.out
    have hi:isSup zs=((⟨leN zs 4 2,x6,x7,x8,leN zs 10 2⟩:PSup).sound&&decide (supBlock ⟨leN zs 4 2,x6,x7,x8,leN zs 10 2⟩=zs)):=by
      unfold isSup
      rw [HB.out.1,HS.out]
      rfl
    unfold getSupErr getSup
    rw [hi]
    unfold supErr supOut at *
    by_cases hs:(⟨leN zs 4 2,x6,x7,x8,leN zs 10 2⟩:PSup).sound=true
    · rw [if_pos hs] at e1 e2
      have hv:((str O).toList == (str zs).toList)=decide (O=zs):=str_eq (by rw [← e2];exact sealOf_bytes (supB_bytes _)) HB.out.2.2.1
      rw [hv,hs,Bool.true_and,e2]
      by_cases ho:O=zs
      · right;left
        rw [decide_eq_true ho]
        exact ⟨e1.symm,rfl,rfl,HS.out⟩
      · right;right
        rw [decide_eq_false ho]
        exact ⟨e1.symm,rfl,rfl,rfl⟩
    · left
      rw [if_neg hs] at e1
      rw [Bool.not_eq_true] at hs
      rw [hs]
      exact ⟨e1.symm,rfl,rfl⟩)
  go_enter Tryz.func21,Tryz.ntmps21
  go_wp2_with fail
  go_region_held (fun W=>W.cell? ⟨g,off+6,none⟩=some (.int .u8 x6)∧W.cell? ⟨g,off+7,none⟩=some (.int .u8 x7)∧W.cell? ⟨g,off+8,none⟩=some (.int .u8 x8)∧Hid (Below w.heap.size w W)) (first | exact HK.out _ B0.out | exact HK.out _ B1.out | exact HK.out _ ((Bn.out.alloc Bn.out.size _).drew))
    (first | (go_at_call 51;refine (num04 (zs:=zs) (HB.out.later (by first | exact B0.out | exact B1.out)) (by decide) (by decide) (by decide)).mono ?_;rintro e w' ⟨rfl,rfl⟩))
  all_goals
    rcases H3.out with ⟨h1,h2,h3⟩ | ⟨h1,h4,h2,h3⟩ | ⟨h1,h4,h2,h3⟩
  all_goals
    subst h1
    have G2:=Lib.hid h2
    have G3:=Lib.hid h3
    clear h2 h3
    go_wp2_with (first | (go_at_call 14;refine (cE _).mono ?_;rintro e w5 ⟨v5,rfl,hf5,hb5⟩;obtain ⟨t0,t1,t2,t3⟩:=two_made hb5;have B5:=Lib.hid t3;have k1:=fresh_str hf5;have k2:=str_bytes (cap:=cap) (HB.out.later t3);have r0:=t0 0 _ rfl;have q0:=t1 0;have s0:=t2 0 _ rfl;have r1:=t0 1 _ rfl;have q1:=t1 1;have s1:=t2 1 _ rfl;have r2:=t0 2 _ rfl;have q2:=t1 2;have s2:=t2 2 _ rfl;have r3:=t0 3 _ rfl;have q3:=t1 3;have s3:=t2 3 _ rfl;have r4:=t0 4 _ rfl;have q4:=t1 4;have s4:=t2 4 _ rfl;clear t0 t1 t2 t3 hf5 hb5))
  all_goals
    refine bodyPost_ret (v:=.tuple #[(getSup zs).val,.int .i64 (getSupErr zs)]) ?_ rfl ⟨rfl,(((((B5.out.setCell (Nat.le_refl _) _).setCell (Nat.le_refl _) _).setCell (Nat.le_refl _) _).setCell (Nat.le_refl _) _).setCell (Nat.le_refl _) _)⟩
    rw [G2.out,G3.out,results_cell_tmp rfl]
    go_simp
    try rfl
set_option maxHeartbeats 1600000 in
theorem get08_any (ao:Option Addr) (len cap:Nat) (zs:List Int) (w:World) (hA:Arg w ao len cap zs):Calls Tryz.prog 22 #[.slice ao len cap] w fun e w'=>e=.returned (.tuple #[(getHead zs).val,.int .i64 (getHeadErr zs)])∧Below w.heap.size w w':=by
  have hB:=hA.1
  by_cases h64:len=64
  case neg=>
    have hI:isHead zs=false:=by unfold isHead;rw [hB.1,decide_eq_false h64];rfl
    have HE:Hid (getHeadErr zs=2∧getHead zs=noHead):=Lib.hid (by unfold getHeadErr getHead;rw [hI];exact ⟨rfl,rfl⟩)
    have hne:((len:Int) == 64)=false:=by simp;omega
    have B0:Hid (Below w.heap.size w (w.alloc (.cells #[.int .i64 0,.int .i64 0] 60))):=Lib.hid ((Below.refl _ _).alloc (Nat.le_refl _) _)
    clear hI hB hA
    go_enter Tryz.func22,Tryz.ntmps22
    go_wp2_with fail
    refine bodyPost_ret (v:=.tuple #[(noHead).val,.int .i64 2]) ?_ rfl ⟨by rw [HE.out.1,HE.out.2],B0.out⟩
    rw [results_cell_tmp rfl]
    go_simp
    try rfl
  subst h64
  have HB:=Lib.hid hB
  obtain ⟨g,off,rfl,hc⟩:=hB.2.2.2.resolve_left (by decide)
  have f4:=hc 4 (by decide)
  have hx4:=byte_at hB.2.2.1 hB.1 (k:=4) (by decide)
  obtain ⟨x4,HX4⟩:∃ x,Hid (zs.getD 4 0=x):=⟨_,Lib.hid rfl⟩
  rw [HX4.out] at f4 hx4
  obtain ⟨hw4,hj4⟩:=hx4
  have IX4:=Lib.hid hj4
  have HF4:=Lib.hid f4
  clear hj4
  have IN0:Hid (i64w (leN zs 8 4)):=Lib.hid (leN_in hB.2.2.1 (by rw [hB.1];decide) (by decide))
  have HS:Hid (readHead zs=(⟨x4,leN zs 8 4⟩:PHead)):=Lib.hid (by unfold readHead;rw [HX4.out])
  have HK:Hid (∀ W,Below w.heap.size w W→W.cell? ⟨g,off+4,none⟩=some (.int .u8 x4)∧Hid (Below w.heap.size w W)):=Lib.hid (fun W h=>⟨cell_later h HF4.out,Lib.hid h⟩)
  have Bn:Hid (Below w.heap.size w (w.alloc (.cells #[.int .i64 0,.int .i64 0] 60))):=Lib.hid ((Below.refl _ _).alloc (Nat.le_refl _) _)
  have B0:=Lib.hid Bn.out.drew
  have B1:Hid (Below w.heap.size w ((w.alloc (.cells #[.int .i64 0,.int .i64 0] 60)).drew.alloc (.cells #[.int .i64 0,.int .i64 0] 60))):=Lib.hid (B0.out.alloc B0.out.size _)
  clear hB hA hc f4
  obtain ⟨E,O,hEO⟩:∃ E O,headErr (⟨x4,leN zs 8 4⟩:PHead)=E∧headOut (⟨x4,leN zs 8 4⟩:PHead)=O:=⟨_,_,rfl,rfl⟩
  have cE:=fun (W:World)=>put08_any (⟨x4,leN zs 8 4⟩:PHead) W ⟨IX4.out,IN0.out⟩
  rw [hEO.1,hEO.2] at cE
  have HEO:=Lib.hid hEO
  clear hEO
  have H3:Hid ((E=2∧getHeadErr zs=2∧getHead zs=noHead)∨(E=0∧((str O).toList == (str zs).toList)=true∧getHeadErr zs=0∧getHead zs=⟨x4,leN zs 8 4⟩)∨(E=0∧((str O).toList == (str zs).toList)=false∧getHeadErr zs=2∧getHead zs=noHead)):=Lib.hid (by
    obtain ⟨e1,e2⟩:=HEO.out
    have hi:isHead zs=((⟨x4,leN zs 8 4⟩:PHead).sound&&decide (headBlock ⟨x4,leN zs 8 4⟩=zs)):=by
      unfold isHead
      rw [HB.out.1,HS.out]
      rfl
    unfold getHeadErr getHead
    rw [hi]
    unfold headErr headOut at *
    by_cases hs:(⟨x4,leN zs 8 4⟩:PHead).sound=true
    · rw [if_pos hs] at e1 e2
      have hv:((str O).toList == (str zs).toList)=decide (O=zs):=str_eq (by rw [← e2];exact sealOf_bytes (headB_bytes _)) HB.out.2.2.1
      rw [hv,hs,Bool.true_and,e2]
      by_cases ho:O=zs
      · right;left
        rw [decide_eq_true ho]
        exact ⟨e1.symm,rfl,rfl,HS.out⟩
      · right;right
        rw [decide_eq_false ho]
        exact ⟨e1.symm,rfl,rfl,rfl⟩
    · left
      rw [if_neg hs] at e1
      rw [Bool.not_eq_true] at hs
      rw [hs]
      exact ⟨e1.symm,rfl,rfl⟩)
  go_enter Tryz.func22,Tryz.ntmps22
  go_wp2_with fail
  go_region_held (fun W=>W.cell? ⟨g,off+4,none⟩=some (.int .u8 x4)∧Hid (Below w.heap.size w W)) (first | exact HK.out _ B0.out | exact HK.out _ B1.out | exact HK.out _ ((Bn.out.alloc Bn.out.size _).drew))
    (first | (go_at_call 51;refine (num04 (zs:=zs) (HB.out.later (by first | exact B0.out | exact B1.out)) (by decide) (by decide) (by decide)).mono ?_;rintro e w' ⟨rfl,rfl⟩))
  all_goals
    rcases H3.out with ⟨h1,h2,h3⟩ | ⟨h1,h4,h2,h3⟩ | ⟨h1,h4,h2,h3⟩
  all_goals
    subst h1
    have G2:=Lib.hid h2
    have G3:=Lib.hid h3
    clear h2 h3
    go_wp2_with (first | (go_at_call 52;refine (cE _).mono ?_;rintro e w5 ⟨v5,rfl,hf5,hb5⟩;obtain ⟨t0,t1,t2,t3⟩:=two_made hb5;have B5:=Lib.hid t3;have k1:=fresh_str hf5;have k2:=str_bytes (cap:=cap) (HB.out.later t3);have r0:=t0 0 _ rfl;have q0:=t1 0;have s0:=t2 0 _ rfl;have r1:=t0 1 _ rfl;have q1:=t1 1;have s1:=t2 1 _ rfl;clear t0 t1 t2 t3 hf5 hb5))
  all_goals
    refine bodyPost_ret (v:=.tuple #[(getHead zs).val,.int .i64 (getHeadErr zs)]) ?_ rfl ⟨rfl,((B5.out.setCell (Nat.le_refl _) _).setCell (Nat.le_refl _) _)⟩
    rw [G2.out,G3.out,results_cell_tmp rfl]
    go_simp
    try rfl
end Go.Proofs.YtcefmpnijjcekaaGreatDoor
namespace Go.Proofs.YtcefmpnijjcekaaGreatDoor
open Go.RowKit
set_option maxHeartbeats 400000 in
theorem Sealed04_any (ao:Option Addr) (len cap:Nat) (zs:List Int) (w:World) (hA:Arg w ao len cap zs) :
    Calls Tryz.prog 23 #[.slice ao len cap] w (Says w.heap.size w (sealedB zs)):=by
  have hB:=hA.1
  by_cases h64:len=64
  · subst h64
    have HV:Hid (((str (sealOf sumS zs)).toList == (str zs).toList)=sealedB zs):=Lib.hid (by
      rw [str_eq (sealOf_bytes hB.2.2.1) hB.2.2.1]
      unfold sealedB
      rw [hB.1]
      simp)
    have cS:=Seal04_any ao 64 cap zs w.drew (show Arg w.drew ao 64 cap zs from hA)
    clear hA
    have HB:=Lib.hid hB
    have s0:=str_bytes (cap:=cap) (show Bts w.drew ao 64 zs from hB)
    clear hB
    go_enter Tryz.func23,Tryz.ntmps23
    go_wp2_with fail
    go_region_with (first | (go_at_call 41;refine cS.mono ?_;rintro e w5 ⟨v5,rfl,h5,b5⟩;have H5:=Lib.hid h5;have B5:=Lib.hid b5;have s1:=fresh_str h5;have s2:=str_bytes (cap:=cap) (HB.out.later ((Below.refl _ _).drew.trans b5));clear h5 b5))
    all_goals (go_wp2_with fail;go_ret;exact ⟨by rw [← HV.out];rfl,(Below.refl _ _).drew.trans B5.out⟩)
  · have hv:sealedB zs=false:=by
      unfold sealedB
      rw [hB.1]
      simp [h64]
    have hne:((len:Int) == 64)=false:=by simp;omega
    rw [hv]
    go_enter Tryz.func23,Tryz.ntmps23
    go_wp2_with fail
    go_quiet (fail)
    go_wp2_with fail
    go_ret
    exact ⟨rfl,below_drewN (Below.refl _ _) _⟩
end Go.Proofs.YtcefmpnijjcekaaGreatDoor
namespace Go.Proofs.YtcefmpnijjcekaaGreatDoor
open Go.RowKit
structure VolAt (w:World) (p:Nat) (B:List (List Int)) (ao:Option Addr) (m c:Nat):Prop where
  sup:w.rangeAt p 0 [.int .i64 (supAt B).a,.int .i64 (supAt B).b,.int .i64 (supAt B).c,.int .i64 (supAt B).d,.int .i64 (supAt B).e]
  up:∃ g cu,w.cell? ⟨p,5,none⟩=some (.slice (some ⟨g,0,none⟩) 480 cu)∧∀ j,j < 480→w.cell? ⟨g,j,none⟩=some (.bool (flag (flagsAt B) j))
  bl:w.cell? ⟨p,7,none⟩=some (.slice ao m c)
set_option maxRecDepth 100000 in
set_option maxHeartbeats 3200000 in
theorem ROpen17_few {ao:Option Addr} {m c:Nat} (w:World) (h:m < 64) :
    Calls Tryz.prog 6 #[.slice ao m c] w fun e w'=>e=.returned (.tuple #[.pointer none,.bool false])∧Below w.heap.size w w':=by
  have i1:(m:Int) < 64:=by omega
  have HB:Hid (Below w.heap.size w (w.alloc (.cells #[.int .i64 0,.int .i64 0,.int .i64 0,.int .i64 0,.int .i64 0,.slice none 0 0,.slice none 0 0,.slice ao m c] 40))):=Lib.hid ((Below.refl _ _).alloc (Nat.le_refl _) _)
  clear h
  go_enter Tryz.func6,Tryz.ntmps6
  go_wp2_with fail
  go_ret2
  exact ⟨rfl,HB.out⟩
theorem arg_cut {w:World} {ao:Option Addr} {len cap k:Nat} {zs:List Int} (h:Arg w ao len cap zs) (hk:k≤len):Arg w ao k cap (zs.take k):=by
  obtain ⟨⟨h1,h2,h3,h4⟩,h5,h6,h7⟩:=h
  refine ⟨⟨by rw [List.length_take];omega,by omega,fun z hz=>h3 z (List.mem_of_mem_take hz),?_⟩,fun e=>⟨by have:=(h5 e).1;omega,(h5 e).2⟩,by omega,by omega⟩
  rcases h4 with h4 | ⟨b,off,e,hc⟩
  · exact Or.inl (by omega)
  · refine Or.inr ⟨b,off,e,fun j hj=>?_⟩
    rw [hc j (by omega),List.getD_eq_getElem?_getD,List.getD_eq_getElem?_getD,List.getElem?_take,if_pos hj]
theorem arg_rest {w:World} {b off len cap k:Nat} {zs:List Int} (h:Arg w (some ⟨b,off,none⟩) len cap zs) (hk:k≤len):Arg w (some ⟨b,off+k,none⟩) (len - k) (cap - k) (zs.drop k):=by
  obtain ⟨h1,h5,h6,h7⟩:=h
  exact ⟨bts_drop h1 hk,(fun e=>by cases e),by omega,by omega⟩
def LenTo (B:List (List Int)) (i:Nat):Prop:=∀ j,j < i→(B.getD j []).length=64
set_option maxRecDepth 100000 in
set_option maxHeartbeats 3200000 in
theorem ROpen17_len {ao:Option Addr} {m c:Nat} {B:List (List Int)} (w:World) (hX:RowsIn w ao m c B) (h64:64≤m) (hm:m≤140737488351232) (hl:len64 B=false) :
    Calls Tryz.prog 6 #[.slice ao m c] w fun e w'=>e=.returned (.tuple #[.pointer none,.bool false])∧Below w.heap.size w w':=by
  have HL:Hid (B.length=m):=Lib.hid hX.1
  have i1:(64:Int)≤(m:Int):=by omega
  obtain ⟨W,hW⟩:∃ W,w.alloc (.cells #[.int .i64 0,.int .i64 0,.int .i64 0,.int .i64 0,.int .i64 0,.slice none 0 0,.slice none 0 0,.slice ao m c] 40)=W:=⟨_,rfl⟩
  have HB:Hid (Below w.heap.size w W):=Lib.hid (by rw [← hW];exact (Below.refl _ _).alloc (Nat.le_refl _) _)
  have HX:=Lib.hid (hX.later HB.out)
  have HF:=Lib.hid hl
  clear hX h64 hl
  go_enter Tryz.func6,Tryz.ntmps6
  go_wp2_with fail
  try rw [hW]
  have HJ0:Hid (LenTo B 0):=Lib.hid (fun j hj=>absurd hj (by omega))
  go_loopw [5] (fun kv wr=>∃ i:Nat,i≤m∧kv=.int .i64 i∧Hid (LenTo B i)∧Hid (W=wr)) (fun kv _=>m - (intOf kv).toNat)
  case atStart=>exact ⟨0,Nat.zero_le _,rfl,HJ0,Lib.hid rfl⟩
  case round=>
    obtain ⟨i,hi,rfl,HJ,HW⟩:=hrel
    clear HJ0
    by_cases hlt:i < m
    · have i2:(i:Int) < m:=by omega
      obtain ⟨b1,o1,ad,l1,c1,rfl,d1,q1⟩:=HX.out.at hlt
      rw [HW.out] at d1
      by_cases h64:l1=64
      · subst h64
        have HQ:Hid (LenTo B (i+1)):=Lib.hid (fun j hj=>by
          by_cases e:j=i
          · rw [e];exact q1.1
          · exact HJ.out j (by omega))
        clear q1
        go_wp2_with fail
        go_roundw
        case rel=>exact ⟨i+1,by omega,by go_num,HQ,HW⟩
        case measure=>simp [intOf];omega
      · have hne:((l1:Int) != 64)=true:=by simp;omega
        clear q1 h64
        go_wp2_with fail
        go_ret2
        exact ⟨rfl,by rw [← HW.out];exact HB.out⟩
    · exact absurd (len64_iff.2 (fun j hj=>HJ.out j (by have:=HL.out;omega))) (by rw [HF.out];decide)
/-! ### A row of nodes -/
theorem infoNd:(Tryz.prog.info? 68).map (fun i=>(i.zero,i.size,i.bytes))=some (some (.agg nodeZ),12,112):=by kernel_rfl
theorem fill12 {c:List Value} (hc:c.length=12) (cells:Array Value) (h:cells.size=12):Instr.fill (fun i=>some (i * 12,12)) cells [(0,Value.agg c.toArray)]=some c.toArray:=by
  have h1:=Great.fill_whole (s:=12) (by decide) [Value.agg c.toArray] cells (fun v hv=>by
    rw [List.mem_singleton.1 hv]
    show c.toArray.size=12
    simp [hc]) (by rw [h];rfl)
  have e:([Value.agg c.toArray].flatMap fun v=>v.cells.toList)=c:=by simp [Value.cells]
  rw [e] at h1
  exact h1
section
variable {ops:Array Oper} {o:Oper} {a:Act} {w:World} {K:Act→World→Prop} {Q:Exit→Act→World→Prop} {E:Prop}
theorem step_build12 (hg:o.guard=none) (x:Operand) (ho:o.op=.buildSlice 38 1 #[(0,x)]) (c:List Value) (hx:a.eval x=.agg c.toArray) (hc:c.length=12) (H:Nat) (hH:w.heap.size=H)
    (hK:K (a.put o.dst (.slice (some ⟨H,0,none⟩) 1 1)) (w.alloc (.cells c.toArray 68))):if Region.wanted o (yielded ops a.tmps)=true then Oper.wp Tryz.prog o a w K Q else E:=by
  subst hH
  rw [if_pos (by simp [Region.wanted,hg])]
  obtain ⟨i0,hi,hz0,hz1,hz2⟩:=info_parts infoNd
  refine wp_buildSlice _ 68 1 _ ho c.toArray i0 (.agg nodeZ) Tryz.underlying38 hi hz0 (by rw [hz1];decide) (by rw [hz1];decide) ?_ hK
  rw [hz1]
  have e:(#[((0:Nat),x)].map fun (i,x)=>(i,a.eval x)).toList=[(0,Value.agg c.toArray)]:=by simp [hx]
  rw [e]
  exact fill12 hc _ (by simp)
theorem step_append12 (hg:o.guard=none) (s y:Operand) (ho:o.op=Op.call { callee:=Callee.builtin Builtin.append,args:=#[s,y],argTypes:=#[38,38] })
    (base n:Nat) (v:Value) (xs:List Value) (hs:a.eval s=v) (hown:w.ownsRow base 68 12 v n xs) (ad:Addr) (c:Nat) (news:List Value) (hl:news.length=12) (hy:a.eval y=.slice (some ad) 1 c)
    (hx:∀ j u,news[j]?=some u→w.cell? (ad.add j)=some u) (h1:∀ u ∈ news,u.oneCell'=true) (hb:n≤1000) (hbase:base≤w.heap.size)
    (hK:∀ v' w',w'.ownsRow base 68 12 v' (n+1) (xs ++ news)→w.grownBy w' v.ownBlock→Below base w w'→K (a.put o.dst v') w') :
    if Region.wanted o (yielded ops a.tmps)=true then Oper.wp Tryz.prog o a w K Q else E:=by
  have hw:Region.wanted o (yielded ops a.tmps)=true:=by simp [Region.wanted,hg]
  rw [if_pos hw]
  obtain ⟨i0,hi0,hz0,hz1,hz2⟩:=info_parts infoNd
  obtain ⟨v',w',hrun,h2,h3,_⟩:=run_append_own (P:=Tryz.prog) w base 38 o.type 68 i0 (.agg nodeZ) 12 112 Tryz.underlying38 hi0 hz0 hz1 hz2 rfl (by decide) v n xs hown ad 1 c news (by rw [hl]) hx h1
      (by unfold maxLen;omega) (by omega) hbase
  unfold Oper.wp
  simp [execOp,ho,resolve,invoke,builtin,hs,hy,hrun,Result.andThen]
  exact hK _ _ h2 h3 ((Below.refl base w).grown h3 hbase (fun k hk=>(hown.lt k hk).1))
end
section
variable {ops:Array Oper} {rest:List Oper} {o:Oper} {a:Act} {w:World} {Q:Exit→Act→World→Prop}
theorem wp_store_newR (hg:o.guard=none) (T:TypeId) (x y:Operand) (ho:o.op=.store T x y) (b:Nat) (vs:Array Value) (hx:a.eval x=.pointer (some ⟨b,0,none⟩)) (hy:a.eval y=.agg vs) (ht:w.there b 0 vs.size) (hi:(Tryz.prog.info? T).map (·.size)=some vs.size) (h1:vs.all (·.oneCell')=true) (hd:o.dst=none)
    (h:∀ w2,w2.rangeAt b 0 vs.toList→(∀ base w0,base≤b→Below base w0 w→Below base w0 w2)→wpList Tryz.prog ops Q rest (a.put none undef) w2):wpList Tryz.prog ops Q (o::rest) a w:=by
  refine wpList_store_mid hg T x y ho b 0 vs hx hy ht hi h1 ?_
  rw [hd]
  exact h _ (World.rangeAt_setCells_same _ _ _ _ (by simpa using ht)) (fun base w0 hb hB=>below_cells _ hb _ _ _ hB)
end
structure ROp (w:World) (q p gu cu:Nat) (s:PSup) (fl:List Int) (bo:Option Addr) (m c i:Nat) (vv:Value) (wr:World):Prop where
  su:wr.rangeAt p 0 [.int .i64 s.a,.int .i64 s.b,.int .i64 s.c,.int .i64 s.d,.int .i64 s.e]
  c5:wr.cell? ⟨p,5,none⟩=some (.slice (some ⟨gu,0,none⟩) 480 cu)
  cu5:∀ j,j < 480→wr.cell? ⟨gu,j,none⟩=some (.bool (flag fl j))
  c6:wr.cell? ⟨p,6,none⟩=some vv
  c7:wr.cell? ⟨p,7,none⟩=some (.slice bo m c)
  fz:∀ j,wr.frozen? ⟨p,j,none⟩=false
  own:∃ xs,wr.ownsRow q 68 12 vv i xs
  lt:p < q∧gu < q∧gu≠p∧q≤wr.heap.size∧w.heap.size≤p
  bel:Below w.heap.size w wr
theorem ROp.kept {w wr w2:World} {q p gu cu m c i:Nat} {s:PSup} {fl:List Int} {bo:Option Addr} {vv:Value} (h:ROp w q p gu cu s fl bo m c i vv wr) (hb:Below q wr w2) (hv:∃ xs,w2.ownsRow q 68 12 vv i xs) (hw:Below w.heap.size w w2):ROp w q p gu cu s fl bo m c i vv w2:=by
  have hp:=hb.block p h.lt.1
  have hg:=hb.block gu h.lt.2.1
  have hc:∀ j,w2.cell? ⟨p,j,none⟩=wr.cell? ⟨p,j,none⟩:=fun j=>cell_of_heap (p:=⟨p,j,none⟩) hp
  exact ⟨fun j v hv=>by rw [hc];exact h.su j v hv,by rw [hc];exact h.c5,fun j hj=>by rw [cell_of_heap (p:=⟨gu,j,none⟩) hg];exact h.cu5 j hj,by rw [hc];exact h.c6,by rw [hc];exact h.c7,fun j=>by rw [frozen_of_heap (p:=⟨p,j,none⟩) hp];exact h.fz j,hv,⟨h.lt.1,h.lt.2.1,h.lt.2.2.1,Nat.le_trans h.lt.2.2.2.1 hb.size,h.lt.2.2.2.2⟩,hw⟩
theorem ROp.later {w wr w2:World} {q p gu cu m c i:Nat} {s:PSup} {fl:List Int} {bo:Option Addr} {vv:Value} (h:ROp w q p gu cu s fl bo m c i vv wr) (hb:Below wr.heap.size wr w2):ROp w q p gu cu s fl bo m c i vv w2:=by
  obtain ⟨xs,ho⟩:=h.own
  exact h.kept (hb.mono h.lt.2.2.2.1) ⟨xs,owns_later_r ho hb⟩ (h.bel.trans (hb.mono h.bel.size))
theorem ROp.step {w wr w2:World} {q p gu cu m c i i':Nat} {s:PSup} {fl:List Int} {bo:Option Addr} {vv v':Value} {xs:List Value} (h:ROp w q p gu cu s fl bo m c i vv wr) (hb:Below q wr w2) (ho:w2.ownsRow q 68 12 v' i' xs):ROp w q p gu cu s fl bo m c i' v' (w2.setCell ⟨p,6,none⟩ v'):=by
  have hp:=hb.block p h.lt.1
  have hg:=hb.block gu h.lt.2.1
  have hc:∀ j,w2.cell? ⟨p,j,none⟩=wr.cell? ⟨p,j,none⟩:=fun j=>cell_of_heap (p:=⟨p,j,none⟩) hp
  have hc6:∀ j,j≠6→(w2.setCell ⟨p,6,none⟩ v').cell? ⟨p,j,none⟩=wr.cell? ⟨p,j,none⟩:=fun j hj=>by
    rw [World.cell?_setCell_other (h:=by intro e;simp at e <;> omega),hc]
  have hwp:=h.lt.2.2.2.2
  refine ⟨fun j v hv=>?_,by rw [hc6 5 (by decide)];exact h.c5,fun j hj=>?_,?_,by rw [hc6 7 (by decide)];exact h.c7,fun j=>?_,⟨xs,?_⟩,⟨h.lt.1,h.lt.2.1,h.lt.2.2.1,?_,hwp⟩,?_⟩
  · have hl:=(List.getElem?_eq_some_iff.1 hv).1
    simp only [List.length_cons,List.length_nil] at hl
    rw [hc6 (0+j) (by omega)]
    exact h.su j v hv
  · rw [World.cell?_setCell_other (h:=by intro e;simp at e;exact h.lt.2.2.1 (by omega)),cell_of_heap (p:=⟨gu,j,none⟩) hg]
    exact h.cu5 j hj
  · have e:=(hc 6).trans h.c6
    rw [World.cell?_setCell_same w2 _ _ e]
  · rw [World.frozen?_setCell,frozen_of_heap (p:=⟨p,j,none⟩) hp]
    exact h.fz j
  · refine ho.kept (row:=some p) ⟨rfl,rfl,rfl,by simp [World.setCell],fun k hk hne=>?_⟩ ?_
    · exact Below.heap_setCell _ _ _ _ (fun e=>hne (by rw [e]))
    · cases hob:v'.ownBlock with
      | none=>exact Or.inl rfl
      | some k=>exact Or.inr (fun e=>by
          cases e
          have:=(ho.lt _ hob).1
          have:=h.lt.1
          omega)
  · have:=Nat.le_trans h.lt.2.2.2.1 hb.size
    simpa [World.setCell] using this
  · have hb2:Below w.heap.size wr w2:=hb.mono (by have:=h.lt.1;omega)
    exact (h.bel.trans hb2).setCell (p:=⟨p,6,none⟩) hwp v'
end Go.Proofs.YtcefmpnijjcekaaGreatDoor
namespace Go.Proofs.YtcefmpnijjcekaaGreatDoor
open Go.RowKit
theorem RowsIn.place {w:World} {a:Option Addr} {len cap:Nat} {Z:List (List Int)} (h:RowsIn w a len cap Z) (h0:0 < len):∃ b off,a=some ⟨b,off,none⟩∧∀ i,i < len→(Z.getD i []).length=64→∃ ad c,w.cell? ⟨b,off+i,none⟩=some (.slice (some ad) (64:Nat) c)∧Arg w (some ad) 64 c (Z.getD i []):=by
  obtain ⟨b,off,ad,l,c,ha,_⟩:=h.at h0
  subst ha
  refine ⟨b,off,rfl,fun i hi hl=>?_⟩
  obtain ⟨b2,o2,ad2,c2,he,h1,h2⟩:=h.full hi hl
  cases he
  exact ⟨ad2,c2,h1,h2⟩
set_option maxRecDepth 100000 in
set_option maxHeartbeats 3200000 in
theorem ROpen17_neg {ao:Option Addr} {m c:Nat} {B:List (List Int)} (w:World) (hX:RowsIn w ao m c B) (h64:64≤m) (hm:m≤140737488351232) (hl:len64 B=true) (hno:¬ (isSup (B.getD 0 [])=true∧(supAt B).a=(m:Int)∧isHead (B.getD 1 [])=true∧sealedB (B.getD 2 [])=true)) :
    Calls Tryz.prog 6 #[.slice ao m c] w fun e w'=>e=.returned (.tuple #[.pointer none,.bool false])∧Below w.heap.size w w':=by
  have hl0:=len64_iff.1 hl
  have hlen:=hX.1
  obtain ⟨b1,o1,rfl,hpl⟩:=hX.place (by omega)
  have i1:(64:Int)≤(m:Int):=by omega
  have i2:(2:Int) < (m:Int):=by omega
  have i3:(1:Int) < (m:Int):=by omega
  have i4:(0:Int) < (m:Int):=by omega
  obtain ⟨W,hW⟩:∃ W,w.alloc (.cells #[.int .i64 0,.int .i64 0,.int .i64 0,.int .i64 0,.int .i64 0,.slice none 0 0,.slice none 0 0,.slice (some ⟨b1,o1,none⟩) m c] 40)=W:=⟨_,rfl⟩
  have HB:Hid (Below w.heap.size w W):=Lib.hid (by rw [← hW];exact (Below.refl _ _).alloc (Nat.le_refl _) _)
  have HX:=Lib.hid (hX.later HB.out)
  obtain ⟨ad0,c0,d0,q0⟩:=hpl 0 (by omega) (hl0 0 (by omega))
  obtain ⟨ad1,c1,d1,q1⟩:=hpl 1 (by omega) (hl0 1 (by omega))
  obtain ⟨ad2,c2,d2,q2⟩:=hpl 2 (by omega) (hl0 2 (by omega))
  have D0:=Lib.hid (cell_later HB.out d0)
  have D1:=Lib.hid (cell_later HB.out d1)
  have D2:=Lib.hid (cell_later HB.out d2)
  obtain ⟨x0,x1,x2,x3,x4,hS⟩:∃ x0 x1 x2 x3 x4,getSup (B.getD 0 [])=⟨x0,x1,x2,x3,x4⟩:=⟨_,_,_,_,_,rfl⟩
  obtain ⟨es,hes⟩:∃ es,getSupErr (B.getD 0 [])=es:=⟨_,rfl⟩
  obtain ⟨y0,y1,hY⟩:∃ y0 y1,getHead (B.getD 1 [])=⟨y0,y1⟩:=⟨_,_,rfl⟩
  obtain ⟨eh,heh⟩:∃ eh,getHeadErr (B.getD 1 [])=eh:=⟨_,rfl⟩
  obtain ⟨sl,hsl⟩:∃ sl,sealedB (B.getD 2 [])=sl:=⟨_,rfl⟩
  have HS:Hid (∀ V,Below w.heap.size w V→Calls Tryz.prog 21 #[.slice (some ad0) 64 c0] V fun e' w'=>e'=.returned (.tuple #[.agg #[.int .i64 x0,.int .i64 x1,.int .i64 x2,.int .i64 x3,.int .i64 x4],.int .i64 es])∧Below V.heap.size V w'):=Lib.hid (fun V hV=>by
    have h:=dec08_any _ _ _ _ _ (q0.later hV)
    rw [hes,hS] at h
    exact h)
  have HH:Hid (∀ V,Below w.heap.size w V→Calls Tryz.prog 22 #[.slice (some ad1) 64 c1] V fun e' w'=>e'=.returned (.tuple #[.agg #[.int .i64 y0,.int .i64 y1],.int .i64 eh])∧Below V.heap.size V w'):=Lib.hid (fun V hV=>by
    have h:=get08_any _ _ _ _ _ (q1.later hV)
    rw [heh,hY] at h
    exact h)
  have HSE:Hid (∀ V,Below w.heap.size w V→Calls Tryz.prog 23 #[.slice (some ad2) 64 c2] V (Says V.heap.size V sl)):=Lib.hid (fun V hV=>by
    have h:=Sealed04_any _ _ _ _ _ (q2.later hV)
    rw [hsl] at h
    exact h)
  have HLT:Hid (LenTo B m):=Lib.hid (fun j hj=>hl0 j (by omega))
  have hway:(es=2)∨(es=0∧eh=2)∨(es=0∧eh=0∧(x0 != (m:Int))=true)∨(es=0∧eh=0∧(x0 != (m:Int))=false∧sl=false):=by
    unfold getSupErr at hes
    unfold getHeadErr at heh
    cases h1:isSup (B.getD 0 []) with
    | false=>rw [if_neg (by rw [h1];decide)] at hes;exact Or.inl hes.symm
    | true=>
      rw [if_pos h1] at hes
      cases h3:isHead (B.getD 1 []) with
      | false=>rw [if_neg (by rw [h3];decide)] at heh;exact Or.inr (Or.inl ⟨hes.symm,heh.symm⟩)
      | true=>
        rw [if_pos h3] at heh
        by_cases h2:x0=(m:Int)
        · refine Or.inr (Or.inr (Or.inr ⟨hes.symm,heh.symm,by simp [h2],?_⟩))
          cases h4:sl with
          | false=>rfl
          | true=>exact absurd ⟨h1,by unfold supAt;rw [hS];omega,h3,by rw [hsl,h4]⟩ hno
        · exact Or.inr (Or.inr (Or.inl ⟨hes.symm,heh.symm,by simpa using h2⟩))
  clear hX h64 hl hno hl0 hpl d0 d1 d2 q0 q1 q2 hS hes hY heh hsl hlen
  rcases hway with rfl | ⟨rfl,rfl⟩ | ⟨rfl,rfl,hne⟩ | ⟨rfl,rfl,hne,rfl⟩
  all_goals
    go_enter Tryz.func6,Tryz.ntmps6
    go_wp2_with fail
    try rw [hW]
    go_loopw [5] (fun kv wr=>∃ i:Nat,i≤m∧kv=.int .i64 i∧Hid (W=wr)) (fun kv _=>m - (intOf kv).toNat)
    case atStart=>exact ⟨0,Nat.zero_le _,rfl,Lib.hid rfl⟩
    case round=>
      obtain ⟨i,hi,rfl,HW⟩:=hrel
      by_cases hlt:i < m
      · have j2:(i:Int) < m:=by omega
        obtain ⟨b9,o9,ad9,c9,he9,d9,_⟩:=HX.out.full hlt (HLT.out i hlt)
        cases he9
        rw [HW.out] at d9
        go_wp2_with fail
        go_roundw
        case rel=>exact ⟨i+1,by omega,by go_num,HW⟩
        case measure=>simp [intOf];omega
      · have hit:i=m:=by omega
        subst hit
        have e0:=D0.out
        rw [Nat.add_zero] at e0
        rw [← HW.out]
        clear HLT HX hlt
        go_wp2_with (first
          | (go_at_call 21;refine (HS.out _ HB.out).mono ?_;rintro e' w3 ⟨rfl,hb3⟩
             have a3:Below W.heap.size W (w3.alloc (.cells #[.int .i64 x0,.int .i64 x1,.int .i64 x2,.int .i64 x3,.int .i64 x4] 36)):=hb3.alloc hb3.size _
             have e1:=cell_later a3 D1.out
             have HF3:Hid ((w3.alloc (.cells #[.int .i64 x0,.int .i64 x1,.int .i64 x2,.int .i64 x3,.int .i64 x4] 36)).rangeAt w3.heap.size 0 [.int .i64 x0,.int .i64 x1,.int .i64 x2,.int .i64 x3,.int .i64 x4]):=Lib.hid (fun j v hj=>by
               rw [Nat.zero_add,World.cell?_alloc_new]
               simpa using hj)
             have HD3:=Lib.hid (cell_later a3 D2.out)
             have HB3:=Lib.hid (HB.out.trans (a3.mono HB.out.size))
             clear hb3 a3 e0)
          | (go_at_call 22;refine (HH.out _ HB3.out).mono ?_;rintro e' w4 ⟨rfl,hb4⟩
             have a4:Below (w3.alloc (.cells #[.int .i64 x0,.int .i64 x1,.int .i64 x2,.int .i64 x3,.int .i64 x4] 36)).heap.size (w3.alloc (.cells #[.int .i64 x0,.int .i64 x1,.int .i64 x2,.int .i64 x3,.int .i64 x4] 36)) (w4.alloc (.cells #[.int .i64 y0,.int .i64 y1] 60)):=hb4.alloc hb4.size _
             have f0:=cell_later a4 (HF3.out 0 _ rfl)
             have e2:=cell_later a4 HD3.out
             have HF4:Hid ((w4.alloc (.cells #[.int .i64 y0,.int .i64 y1] 60)).rangeAt w3.heap.size 0 [.int .i64 x0,.int .i64 x1,.int .i64 x2,.int .i64 x3,.int .i64 x4]):=Lib.hid (fun j v hj=>cell_later a4 (HF3.out j v hj))
             have HB4:=Lib.hid (HB3.out.trans (a4.mono HB3.out.size))
             clear hb4 a4 e1)
          | (go_at_call 23;refine (HSE.out _ HB4.out).mono ?_;rintro e' w5 ⟨rfl,hb5⟩;have HB5:=Lib.hid (HB4.out.trans (hb5.mono HB4.out.size));clear hb5))
        go_ret2
        exact ⟨rfl,by first | exact HB5.out | exact HB4.out⟩
end Go.Proofs.YtcefmpnijjcekaaGreatDoor
