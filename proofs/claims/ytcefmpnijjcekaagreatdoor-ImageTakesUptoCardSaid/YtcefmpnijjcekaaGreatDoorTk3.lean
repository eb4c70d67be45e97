/- Proved here: what the landed super's four calls answer (supOk). No conditions but those that each theorem names. Proved here: what the landed super's four calls answer (supOk): the two that read, and all. No conditions but those that each theorem names. Proved here: comparing 64-bit floats that hold whole numbers below 2^53 is comparing these numbers, and cutting such a .. -/
import Derived.Test.YtcefmpnijjcekaaGreatDoorTk2
import Derived.Laws.ResultCell
import Derived.Test.YtcefmpnijjcekaaGreatDoorTk1
import Derived.Test.YtcefmpnijjcekaaGreatDoorTk0
import Derived.Laws.Externs
set_option linter.unusedVariables false
set_option linter.unusedSimpArgs false
namespace Go.Proofs.YtcefmpnijjcekaaGreatDoor
open Go.RowKit
theorem bytesEq_any (ao bo:Option Addr) (al ac bl bc:Nat) (xs ys:List Int) (w:World) (hx:Bts w ao al xs) (hy:Bts w bo bl ys) :
    Calls Tryz.prog 88 #[.slice ao al ac,.slice bo bl bc] w fun e w'=>e=.returned (.bool (decide (xs=ys)))∧w=w':=by
  have h1:=str_bytes (cap:=ac) hx
  have h2:=str_bytes (cap:=bc) hy
  have HE:Hid (((str xs).toList == (str ys).toList)=decide (xs=ys)):=Lib.hid (str_eq hx.2.2.1 hy.2.2.1)
  clear hx hy
  generalize str xs=sx at *
  generalize str ys=sy at *
  go_enter Tryz.func88,Tryz.ntmps88
  go_wp2
  go_ret
  exact ⟨by rw [← HE.out];rfl,rfl⟩
theorem sealOut_sum {m b:List Int} (h:m.length=64∧sealOf sumS m=b):sealOut sumS m=b:=by
  unfold sealOut
  rw [if_pos h.1,h.2]
theorem wrt_sup (s:PSup):wrt (textOut zeroes64 0 (bytesOf ⟨#[68,82,89,68]⟩)) supPs [s.a,s.b,s.c,s.d,s.e] 5=madeSup s:=rfl
theorem wrt_head (s:PHead):wrt (textOut zeroes64 0 (bytesOf ⟨#[72,69,65,68]⟩)) headPs [s.a,s.b] 2=madeHead s:=rfl
theorem cell_block {w w':World} {p:Addr} (h:w'.heap[p.block]?=w.heap[p.block]?):w'.cell? p=w.cell? p:=by
  unfold World.cell?
  rw [h]
theorem dec_begun {w w3:World} {T:TypeId} {c:Array Value} {n:Nat} {ps:List (Nat × Nat)} {zs:List Int} (hz:∀ j,j < n→c[j]?=some (.int .i64 0))
    (hp:PlIs w3 ((w.alloc (.cells c T)).alloc (.cells c T)).heap.size (w.heap.size+1) ps) (hb:Below ((w.alloc (.cells c T)).alloc (.cells c T)).heap.size ((w.alloc (.cells c T)).alloc (.cells c T)) w3) :
    Rd w (w.heap.size+1+1) (w.heap.size+1) ps n zs 0 w3∧(∀ j,j < n→w3.cell? ⟨w.heap.size,j,none⟩=some (.int .i64 0))∧(∀ j,w3.frozen? ⟨w.heap.size,j,none⟩=false)∧w.heap.size+1 < w3.heap.size:=by
  have s1:((w.alloc (.cells c T)).alloc (.cells c T)).heap.size=w.heap.size+1+1:=by simp
  have sa:(w.alloc (.cells c T)).heap.size=w.heap.size+1:=by simp
  have b1:Below (w.alloc (.cells c T)).heap.size (w.alloc (.cells c T)) w3:=((Below.refl _ _).alloc (Nat.le_refl _) _).trans (hb.mono (by simp))
  have hsz:=hb.size
  rw [s1] at hsz hp
  refine ⟨⟨((Below.refl _ _).alloc (Nat.le_refl _) _).trans (b1.mono (by simp)),hp,fun j hj=>?_,fun j=>?_⟩,fun j hj=>cell_later b1 (by rw [World.cell?_alloc_new];exact hz j hj),fun j=>?_,by omega⟩
  · rw [if_neg (by omega)]
    refine cell_later hb ?_
    rw [← sa,World.cell?_alloc_new]
    exact hz j hj
  · rw [hb.frozen (p:=⟨w.heap.size+1,j,none⟩) (by simp),← sa,World.frozen?_alloc_mark]
    simp
  · rw [b1.frozen (p:=⟨w.heap.size,j,none⟩) (by simp),World.frozen?_alloc_mark]
    simp
theorem dec_read {w w3 w4 w5:World} {gp n:Nat} {ps:List (Nat × Nat)} {zs:List Int} (h3:(∀ j,j < n→w3.cell? ⟨w.heap.size,j,none⟩=some (.int .i64 0))∧(∀ j,w3.frozen? ⟨w.heap.size,j,none⟩=false)∧w.heap.size+1 < w3.heap.size)
    (h4:Rd w gp (w.heap.size+1) ps n zs n w4) (hs:w3.heap.size≤w4.heap.size) (hk:∀ b,b < w3.heap.size→b≠w.heap.size+1→w4.heap[b]?=w3.heap[b]?) (h5:Below w4.heap.size w4 w5) :
    (∀ j,j < n→w5.cell? ⟨w.heap.size,j,none⟩=some (.int .i64 0))∧(∀ j,w5.frozen? ⟨w.heap.size,j,none⟩=false)∧(∀ j,j < n→w5.cell? ⟨w.heap.size+1,j,none⟩=some (.int .i64 (getOut zs ((ps.getD j (0,0)).1:Nat) ((ps.getD j (0,0)).2:Nat))))∧Below w.heap.size w w5:=by
  have hk0:=hk w.heap.size (by omega) (by omega)
  refine ⟨fun j hj=>cell_later h5 ?_,fun j=>?_,fun j hj=>cell_later h5 ?_,h4.1.trans (h5.mono h4.1.size)⟩
  · rw [cell_block (p:=⟨w.heap.size,j,none⟩) hk0];exact h3.1 j hj
  · rw [h5.frozen (p:=⟨w.heap.size,j,none⟩) (by show w.heap.size < _;omega),World.frozen?_of_block (w:=w3) (a:=⟨w.heap.size,j,none⟩) hk0];exact h3.2.1 j
  · rw [h4.2.2.1 j hj,if_pos hj]
theorem getOut_in {zs:List Int} (hz:∀ z ∈ zs,0≤z∧z≤255) {p k:Nat} (h:p+k≤64) (hk:k≤4):i64w (getOut zs p k):=by
  unfold getOut
  split
  · have h64:zs.length=64:=(fErr_ok (by assumption)).1
    have:=leN_four hz p k (by omega) hk
    unfold i64w
    rw [Int.toNat_natCast,Int.toNat_natCast]
    omega
  · unfold i64w;omega
theorem getOut_64 {zs:List Int} (h:zs.length=64) {p k:Nat} (h1:1≤k) (h2:k≤4) (h3:p+k≤60):getOut zs p k=leN zs p k:=by
  unfold getOut
  rw [h,if_pos (by unfold fErr;rw [if_pos rfl,if_neg (by omega)])]
  rw [Int.toNat_natCast,Int.toNat_natCast]
theorem getOut_no {zs:List Int} (h:zs.length≠64) (p k:Int):getOut zs p k=0:=by
  unfold getOut
  rw [if_neg (by intro e;exact h (fErr_ok e).1)]
theorem leN1 (zs:List Int) (p:Nat):leN zs p 1=zs.getD p 0:=by
  show 0+zs.getD (p+0) 0 * 256^0=_
  rw [Nat.add_zero]
  omega
def gotSup (zs:List Int):PSup:=⟨getOut zs (4:Nat) (2:Nat),getOut zs (6:Nat) (1:Nat),getOut zs (7:Nat) (1:Nat),getOut zs (8:Nat) (1:Nat),getOut zs (10:Nat) (2:Nat)⟩
def gotHead (zs:List Int):PHead:=⟨getOut zs (4:Nat) (1:Nat),getOut zs (8:Nat) (4:Nat)⟩
theorem got_sup {zs:List Int} (h:zs.length=64):gotSup zs=readSup zs:=by
  unfold gotSup readSup
  rw [getOut_64 h (by decide) (by decide) (by decide),getOut_64 h (by decide) (by decide) (by decide),getOut_64 h (by decide) (by decide) (by decide),getOut_64 h (by decide) (by decide) (by decide),getOut_64 h (by decide) (by decide) (by decide),leN1,leN1,leN1]
theorem got_head {zs:List Int} (h:zs.length=64):gotHead zs=readHead zs:=by
  unfold gotHead readHead
  rw [getOut_64 h (by decide) (by decide) (by decide),getOut_64 h (by decide) (by decide) (by decide),leN1]
theorem got_no_sup {zs:List Int} (h:zs.length≠64):(gotSup zs).sound=false:=by
  unfold gotSup
  simp only [getOut_no h]
  rfl
theorem got_no_head {zs:List Int} (h:zs.length≠64):(gotHead zs).sound=false:=by
  unfold gotHead
  simp only [getOut_no h]
  rfl
theorem sup_ways (zs:List Int):((gotSup zs).sound=true∧supBlock (gotSup zs)=zs∧getSup zs=gotSup zs∧getSupErr zs=0)∨((gotSup zs).sound=true∧supBlock (gotSup zs)≠zs∧getSup zs=noSup∧getSupErr zs=2)∨((gotSup zs).sound=false∧getSup zs=noSup∧getSupErr zs=2):=by
  unfold getSup getSupErr
  by_cases h64:zs.length=64
  · rw [got_sup h64]
    unfold isSup
    rw [decide_eq_true h64,Bool.true_and]
    cases hs:(readSup zs).sound with
    | false=>right;right;exact ⟨rfl,rfl,rfl⟩
    | true=>
      by_cases he:supBlock (readSup zs)=zs
      · left;rw [decide_eq_true he];exact ⟨rfl,he,rfl,rfl⟩
      · right;left;rw [decide_eq_false he];exact ⟨rfl,he,rfl,rfl⟩
  · right;right
    have hi:isSup zs=false:=by unfold isSup;rw [decide_eq_false h64];rfl
    rw [hi]
    exact ⟨got_no_sup h64,rfl,rfl⟩
theorem head_ways (zs:List Int):((gotHead zs).sound=true∧headBlock (gotHead zs)=zs∧getHead zs=gotHead zs∧getHeadErr zs=0)∨((gotHead zs).sound=true∧headBlock (gotHead zs)≠zs∧getHead zs=noHead∧getHeadErr zs=2)∨((gotHead zs).sound=false∧getHead zs=noHead∧getHeadErr zs=2):=by
  unfold getHead getHeadErr
  by_cases h64:zs.length=64
  · rw [got_head h64]
    unfold isHead
    rw [decide_eq_true h64,Bool.true_and]
    cases hs:(readHead zs).sound with
    | false=>right;right;exact ⟨rfl,rfl,rfl⟩
    | true=>
      by_cases he:headBlock (readHead zs)=zs
      · left;rw [decide_eq_true he];exact ⟨rfl,he,rfl,rfl⟩
      · right;left;rw [decide_eq_false he];exact ⟨rfl,he,rfl,rfl⟩
  · right;right
    have hi:isHead zs=false:=by unfold isHead;rw [decide_eq_false h64];rfl
    rw [hi]
    exact ⟨got_no_head h64,rfl,rfl⟩
set_option maxHeartbeats 1600000 in
theorem senc_any (s:PSup) (w:World) (hi:s.in64):Calls Tryz.prog 37 #[s.val] w (Handed w.heap.size w (supOut s) (supErr s)):=by
  obtain ⟨a,b,c,d,e⟩:=s
  have W1:Hid (Below w.heap.size w (w.alloc (.cells #[.int .i64 a,.int .i64 b,.int .i64 c,.int .i64 d,.int .i64 e] 36))):=Lib.hid ((Below.refl _ _).alloc (Nat.le_refl _) _)
  have cS:=fun W=>soundSuper_any (⟨a,b,c,d,e⟩:PSup) W
  cases hS:(PSup.sound ⟨a,b,c,d,e⟩) with
  | false=>
    have HO:Hid (supOut ⟨a,b,c,d,e⟩=[]∧supErr ⟨a,b,c,d,e⟩=2):=Lib.hid (by unfold supOut supErr;rw [hS];exact ⟨rfl,rfl⟩)
    rw [hS] at cS
    unfold PSup.val at cS ⊢
    clear hS hi
    go_enter Tryz.func37,Tryz.ntmps37
    go_wp2_with (go_at_call 81;refine (cS _).mono ?_;rintro e w2 ⟨rfl,hb2⟩;have B2:=Lib.hid (W1.out.trans (hb2.mono W1.out.size));clear hb2)
    go_ret2
    exact ⟨.slice none 0 0,by rw [HO.out.2];rfl,by rw [HO.out.1];exact Fresh.nil _ _,B2.out⟩
  | true=>
    have HO:Hid (supOut ⟨a,b,c,d,e⟩=supBlock ⟨a,b,c,d,e⟩∧supErr ⟨a,b,c,d,e⟩=0):=Lib.hid (by unfold supOut supErr;rw [hS];exact ⟨rfl,rfl⟩)
    have HM:Hid (sealOut sumS (wrt (textOut zeroes64 0 (bytesOf ⟨#[68,82,89,68]⟩)) supPs [a,b,c,d,e] 5)=supBlock ⟨a,b,c,d,e⟩):=Lib.hid (by
      have ew:=wrt_sup ⟨a,b,c,d,e⟩
      rw [show wrt (textOut zeroes64 0 (bytesOf ⟨#[68,82,89,68]⟩)) supPs [a,b,c,d,e] 5=_ from ew]
      exact sealOut_sum (made_sup hS))
    have HW:Hid (∀ gp W,Below (w.alloc (.cells #[.int .i64 a,.int .i64 b,.int .i64 c,.int .i64 d,.int .i64 e] 36)).heap.size (w.alloc (.cells #[.int .i64 a,.int .i64 b,.int .i64 c,.int .i64 d,.int .i64 e] 36)) W→PlIs W gp w.heap.size supPs→Calls Tryz.prog 82 #[.string ⟨#[68,82,89,68]⟩,.slice (some ⟨gp,0,none⟩) (5:Nat) (5:Nat)] W (Gives W.heap.size W (supBlock ⟨a,b,c,d,e⟩))):=Lib.hid (fun gp W hW hp=>by
      have c:=write_any ⟨#[68,82,89,68]⟩ gp w.heap.size 5 supPs [a,b,c,d,e] W (by decide) rfl (by decide) small_sup hp (fun j hj=>?_) (fun j hj=>?_)
      · rw [HM.out] at c
        exact c
      · refine cell_later hW ?_
        rw [World.cell?_alloc_new]
        match j,hj with
        | 0,_ | 1,_ | 2,_ | 3,_ | 4,_=>rfl
      · unfold PSup.in64 at hi
        match j,hj with
        | 0,_=>exact hi.1
        | 1,_=>exact hi.2.1
        | 2,_=>exact hi.2.2.1
        | 3,_=>exact hi.2.2.2.1
        | 4,_=>exact hi.2.2.2.2
      )
    rw [hS] at cS
    unfold PSup.val at cS ⊢
    have cP:=fun W=>superPlaces_any w.heap.size W
    clear hS hi HM
    go_enter Tryz.func37,Tryz.ntmps37
    go_wp2_with (first
      | (go_at_call 81;refine (cS _).mono ?_;rintro e w2 ⟨rfl,hb2⟩;have B2:=Lib.hid hb2;clear hb2)
      | (go_at_call 83;refine (cP _).mono ?_;rintro e w3 ⟨rfl,hp3,hb3⟩;have P3:=Lib.hid hp3;have B3:=Lib.hid (B2.out.trans (hb3.mono B2.out.size));clear hp3 hb3)
      | (go_at_call 82;refine (HW.out _ _ B3.out P3.out).mono ?_;rintro e w4 ⟨v4,rfl,hf4,hb4⟩;have B4:=Lib.hid ((W1.out.trans (B3.out.mono W1.out.size)).trans (hb4.mono (W1.out.trans (B3.out.mono W1.out.size)).size));have F4:=Lib.hid (hf4.mono (W1.out.trans (B3.out.mono W1.out.size)).size);clear hf4 hb4))
    go_ret2
    exact ⟨v4,by rw [HO.out.2];rfl,by rw [HO.out.1];exact F4.out,B4.out⟩
set_option maxHeartbeats 1600000 in
theorem sput_any (s:PHead) (w:World) (hi:s.in64):Calls Tryz.prog 58 #[s.val] w (Handed w.heap.size w (headOut s) (headErr s)):=by
  obtain ⟨a,b⟩:=s
  have W1:Hid (Below w.heap.size w (w.alloc (.cells #[.int .i64 a,.int .i64 b] 60))):=Lib.hid ((Below.refl _ _).alloc (Nat.le_refl _) _)
  have cS:=fun W=>soundHead_any (⟨a,b⟩:PHead) W
  cases hS:(PHead.sound ⟨a,b⟩) with
  | false=>
    have HO:Hid (headOut ⟨a,b⟩=[]∧headErr ⟨a,b⟩=2):=Lib.hid (by unfold headOut headErr;rw [hS];exact ⟨rfl,rfl⟩)
    rw [hS] at cS
    unfold PHead.val at cS ⊢
    clear hS hi
    go_enter Tryz.func58,Tryz.ntmps58
    go_wp2_with (go_at_call 97;refine (cS _).mono ?_;rintro e w2 ⟨rfl,hb2⟩;have B2:=Lib.hid (W1.out.trans (hb2.mono W1.out.size));clear hb2)
    go_ret2
    exact ⟨.slice none 0 0,by rw [HO.out.2];rfl,by rw [HO.out.1];exact Fresh.nil _ _,B2.out⟩
  | true=>
    have HO:Hid (headOut ⟨a,b⟩=headBlock ⟨a,b⟩∧headErr ⟨a,b⟩=0):=Lib.hid (by unfold headOut headErr;rw [hS];exact ⟨rfl,rfl⟩)
    have HM:Hid (sealOut sumS (wrt (textOut zeroes64 0 (bytesOf ⟨#[72,69,65,68]⟩)) headPs [a,b] 2)=headBlock ⟨a,b⟩):=Lib.hid (by
      have ew:=wrt_head ⟨a,b⟩
      rw [show wrt (textOut zeroes64 0 (bytesOf ⟨#[72,69,65,68]⟩)) headPs [a,b] 2=_ from ew]
      exact sealOut_sum (made_head hS))
    have HW:Hid (∀ gp W,Below (w.alloc (.cells #[.int .i64 a,.int .i64 b] 60)).heap.size (w.alloc (.cells #[.int .i64 a,.int .i64 b] 60)) W→PlIs W gp w.heap.size headPs→Calls Tryz.prog 82 #[.string ⟨#[72,69,65,68]⟩,.slice (some ⟨gp,0,none⟩) (2:Nat) (2:Nat)] W (Gives W.heap.size W (headBlock ⟨a,b⟩))):=Lib.hid (fun gp W hW hp=>by
      have c:=write_any ⟨#[72,69,65,68]⟩ gp w.heap.size 2 headPs [a,b] W (by decide) rfl (by decide) small_head hp (fun j hj=>?_) (fun j hj=>?_)
      · rw [HM.out] at c
        exact c
      · refine cell_later hW ?_
        rw [World.cell?_alloc_new]
        match j,hj with
        | 0,_ | 1,_=>rfl
      · unfold PHead.in64 at hi
        match j,hj with
        | 0,_=>exact hi.1
        | 1,_=>exact hi.2
      )
    rw [hS] at cS
    unfold PHead.val at cS ⊢
    have cP:=fun W=>headPlaces_any w.heap.size W
    clear hS hi HM
    go_enter Tryz.func58,Tryz.ntmps58
    go_wp2_with (first
      | (go_at_call 97;refine (cS _).mono ?_;rintro e w2 ⟨rfl,hb2⟩;have B2:=Lib.hid hb2;clear hb2)
      | (go_at_call 89;refine (cP _).mono ?_;rintro e w3 ⟨rfl,hp3,hb3⟩;have P3:=Lib.hid hp3;have B3:=Lib.hid (B2.out.trans (hb3.mono B2.out.size));clear hp3 hb3)
      | (go_at_call 82;refine (HW.out _ _ B3.out P3.out).mono ?_;rintro e w4 ⟨v4,rfl,hf4,hb4⟩;have B4:=Lib.hid ((W1.out.trans (B3.out.mono W1.out.size)).trans (hb4.mono (W1.out.trans (B3.out.mono W1.out.size)).size));have F4:=Lib.hid (hf4.mono (W1.out.trans (B3.out.mono W1.out.size)).size);clear hf4 hb4))
    go_ret2
    exact ⟨v4,by rw [HO.out.2];rfl,by rw [HO.out.1];exact F4.out,B4.out⟩
end Go.Proofs.YtcefmpnijjcekaaGreatDoor
namespace Go.Proofs.YtcefmpnijjcekaaGreatDoor
open Go.RowKit
set_option maxHeartbeats 3200000 in
theorem shead_any (ao:Option Addr) (len cap:Nat) (zs:List Int) (w:World) (hA:Arg w ao len cap zs):Calls Tryz.prog 46 #[.slice ao len cap] w fun e w'=>e=.returned (.tuple #[(getHead zs).val,.int .i64 (getHeadErr zs)])∧Below w.heap.size w w':=by
  have HA:=Lib.hid hA
  have HZ:Hid (∀ j,j < 2→(#[.int .i64 0,.int .i64 0]:Array Value)[j]?=some (.int .i64 0)):=Lib.hid (fun j hj=>by
    match j,hj with
    | 0,_ | 1,_=>rfl)
  have HI:Hid ((gotHead zs).in64):=Lib.hid (by
    unfold gotHead PHead.in64
    exact ⟨getOut_in hA.1.2.2.1 (by decide) (by decide),getOut_in hA.1.2.2.1 (by decide) (by decide)⟩)
  have cP:=fun (W:World)=>headPlaces_any (w.heap.size+1) W
  have HR:Hid (∀ W,Rd w (w.heap.size+1+1) (w.heap.size+1) headPs 2 zs 0 W→w.heap.size+1 < W.heap.size→Calls Tryz.prog 87 #[.slice ao len cap,.slice (some ⟨w.heap.size+1+1,0,none⟩) (2:Nat) (2:Nat)] W fun e w'=>e=.returned (.tuple #[])∧Rd w (w.heap.size+1+1) (w.heap.size+1) headPs 2 zs 2 w'∧W.heap.size≤w'.heap.size∧∀ b,b < W.heap.size→b≠w.heap.size+1→w'.heap[b]?=W.heap[b]?):=
    Lib.hid (fun W hR hg=>read_any ao len cap zs (w.heap.size+1+1) (w.heap.size+1) 2 headPs w W HA.out rfl (by decide) small_head (by omega) hg (by omega) hR)
  have cE:=fun (W:World)=>sput_any (gotHead zs) W HI.out
  have HG:Hid (gotHead zs=gotHead zs):=Lib.hid rfl
  clear hA
  rcases head_ways zs with ⟨hs,hb,hg,he⟩ | ⟨hs,hb,hg,he⟩ | ⟨hs,hg,he⟩
  · unfold headOut headErr at cE
    rw [hs] at cE
    have HE:=Lib.hid (And.intro hg he)
    rw [if_pos rfl,if_pos rfl] at cE
    generalize headBlock (gotHead zs)=O at *
    have HD:Hid (decide (O=zs)=true):=Lib.hid (decide_eq_true hb)
    clear hs hg he hb
    unfold gotHead PHead.val at cE
    go_enter Tryz.func46,Tryz.ntmps46
    go_wp2_with (first
      | (go_at_call 89;refine (cP _).mono ?_;rintro e w3 ⟨rfl,hp3,hb3⟩;have H3:=Lib.hid (dec_begun (zs:=zs) HZ.out hp3 hb3);clear hp3 hb3)
      | (go_at_call 87;refine (HR.out _ H3.out.1 H3.out.2.2.2).mono ?_;rintro e w4 ⟨rfl,hr4,hs4,hk4⟩;have H4:=Lib.hid (And.intro hr4 (And.intro hs4 hk4));have q0:=(dec_read H3.out.2 hr4 hs4 hk4 (Below.refl _ _)).2.2.1 0 (by decide);have q1:=(dec_read H3.out.2 hr4 hs4 hk4 (Below.refl _ _)).2.2.1 1 (by decide);clear hr4 hs4 hk4)
      | (go_at_call 58;refine (cE _).mono ?_;rintro e w5 ⟨v5,rfl,hf5,hb5⟩;obtain ⟨a5,c5,rfl,hA5⟩:=fresh_form hf5;clear q0 q1;have q0:=(dec_read H3.out.2 H4.out.1 H4.out.2.1 H4.out.2.2 hb5).2.2.1 0 (by decide);have z0:=(dec_read H3.out.2 H4.out.1 H4.out.2.1 H4.out.2.2 hb5).1 0 (by decide);have f0:=(dec_read H3.out.2 H4.out.1 H4.out.2.1 H4.out.2.2 hb5).2.1 0;have q1:=(dec_read H3.out.2 H4.out.1 H4.out.2.1 H4.out.2.2 hb5).2.2.1 1 (by decide);have z1:=(dec_read H3.out.2 H4.out.1 H4.out.2.1 H4.out.2.2 hb5).1 1 (by decide);have f1:=(dec_read H3.out.2 H4.out.1 H4.out.2.1 H4.out.2.2 hb5).2.1 1;have A5:=Lib.hid hA5;have B5:=Lib.hid (dec_read H3.out.2 H4.out.1 H4.out.2.1 H4.out.2.2 hb5).2.2.2;clear hf5 hb5 hA5)
      | (go_at_call 88;refine (bytesEq_any a5 ao _ c5 len cap O zs _ A5.out.1 (HA.out.later B5.out).1).mono ?_;rintro e w6 ⟨rfl,rfl⟩;rw [HD.out]))
    refine bodyPost_ret (v:=.tuple #[(getHead zs).val,.int .i64 (getHeadErr zs)]) ?_ rfl ⟨rfl,((B5.out.setCell (Nat.le_refl _) _).setCell (Nat.le_refl _) _)⟩
    rw [HE.out.1,HE.out.2,results_cell_tmp rfl]
    go_simp
    try rfl
  · unfold headOut headErr at cE
    rw [hs] at cE
    have HE:=Lib.hid (And.intro hg he)
    rw [if_pos rfl,if_pos rfl] at cE
    generalize headBlock (gotHead zs)=O at *
    have HD:Hid (decide (O=zs)=false):=Lib.hid (decide_eq_false hb)
    clear hs hg he hb
    unfold gotHead PHead.val at cE
    go_enter Tryz.func46,Tryz.ntmps46
    go_wp2_with (first
      | (go_at_call 89;refine (cP _).mono ?_;rintro e w3 ⟨rfl,hp3,hb3⟩;have H3:=Lib.hid (dec_begun (zs:=zs) HZ.out hp3 hb3);clear hp3 hb3)
      | (go_at_call 87;refine (HR.out _ H3.out.1 H3.out.2.2.2).mono ?_;rintro e w4 ⟨rfl,hr4,hs4,hk4⟩;have H4:=Lib.hid (And.intro hr4 (And.intro hs4 hk4));have q0:=(dec_read H3.out.2 hr4 hs4 hk4 (Below.refl _ _)).2.2.1 0 (by decide);have q1:=(dec_read H3.out.2 hr4 hs4 hk4 (Below.refl _ _)).2.2.1 1 (by decide);clear hr4 hs4 hk4)
      | (go_at_call 58;refine (cE _).mono ?_;rintro e w5 ⟨v5,rfl,hf5,hb5⟩;obtain ⟨a5,c5,rfl,hA5⟩:=fresh_form hf5;clear q0 q1;have q0:=(dec_read H3.out.2 H4.out.1 H4.out.2.1 H4.out.2.2 hb5).2.2.1 0 (by decide);have z0:=(dec_read H3.out.2 H4.out.1 H4.out.2.1 H4.out.2.2 hb5).1 0 (by decide);have f0:=(dec_read H3.out.2 H4.out.1 H4.out.2.1 H4.out.2.2 hb5).2.1 0;have q1:=(dec_read H3.out.2 H4.out.1 H4.out.2.1 H4.out.2.2 hb5).2.2.1 1 (by decide);have z1:=(dec_read H3.out.2 H4.out.1 H4.out.2.1 H4.out.2.2 hb5).1 1 (by decide);have f1:=(dec_read H3.out.2 H4.out.1 H4.out.2.1 H4.out.2.2 hb5).2.1 1;have A5:=Lib.hid hA5;have B5:=Lib.hid (dec_read H3.out.2 H4.out.1 H4.out.2.1 H4.out.2.2 hb5).2.2.2;clear hf5 hb5 hA5)
      | (go_at_call 88;refine (bytesEq_any a5 ao _ c5 len cap O zs _ A5.out.1 (HA.out.later B5.out).1).mono ?_;rintro e w6 ⟨rfl,rfl⟩;rw [HD.out]))
    refine bodyPost_ret (v:=.tuple #[(getHead zs).val,.int .i64 (getHeadErr zs)]) ?_ rfl ⟨rfl,((B5.out.setCell (Nat.le_refl _) _).setCell (Nat.le_refl _) _)⟩
    rw [HE.out.1,HE.out.2,results_cell_tmp rfl]
    go_simp
    try rfl
  · unfold headOut headErr at cE
    rw [hs] at cE
    have HE:=Lib.hid (And.intro hg he)
    rw [if_neg (by decide),if_neg (by decide)] at cE
    clear hs hg he
    unfold gotHead PHead.val at cE
    go_enter Tryz.func46,Tryz.ntmps46
    go_wp2_with (first
      | (go_at_call 89;refine (cP _).mono ?_;rintro e w3 ⟨rfl,hp3,hb3⟩;have H3:=Lib.hid (dec_begun (zs:=zs) HZ.out hp3 hb3);clear hp3 hb3)
      | (go_at_call 87;refine (HR.out _ H3.out.1 H3.out.2.2.2).mono ?_;rintro e w4 ⟨rfl,hr4,hs4,hk4⟩;have H4:=Lib.hid (And.intro hr4 (And.intro hs4 hk4));have q0:=(dec_read H3.out.2 hr4 hs4 hk4 (Below.refl _ _)).2.2.1 0 (by decide);have q1:=(dec_read H3.out.2 hr4 hs4 hk4 (Below.refl _ _)).2.2.1 1 (by decide);clear hr4 hs4 hk4)
      | (go_at_call 58;refine (cE _).mono ?_;rintro e w5 ⟨v5,rfl,hf5,hb5⟩;obtain ⟨a5,c5,rfl,hA5⟩:=fresh_form hf5;clear q0 q1;have q0:=(dec_read H3.out.2 H4.out.1 H4.out.2.1 H4.out.2.2 hb5).2.2.1 0 (by decide);have z0:=(dec_read H3.out.2 H4.out.1 H4.out.2.1 H4.out.2.2 hb5).1 0 (by decide);have f0:=(dec_read H3.out.2 H4.out.1 H4.out.2.1 H4.out.2.2 hb5).2.1 0;have q1:=(dec_read H3.out.2 H4.out.1 H4.out.2.1 H4.out.2.2 hb5).2.2.1 1 (by decide);have z1:=(dec_read H3.out.2 H4.out.1 H4.out.2.1 H4.out.2.2 hb5).1 1 (by decide);have f1:=(dec_read H3.out.2 H4.out.1 H4.out.2.1 H4.out.2.2 hb5).2.1 1;have A5:=Lib.hid hA5;have B5:=Lib.hid (dec_read H3.out.2 H4.out.1 H4.out.2.1 H4.out.2.2 hb5).2.2.2;clear hf5 hb5 hA5))
    refine bodyPost_ret (v:=.tuple #[(getHead zs).val,.int .i64 (getHeadErr zs)]) ?_ rfl ⟨rfl,((B5.out.setCell (Nat.le_refl _) _).setCell (Nat.le_refl _) _)⟩
    rw [HE.out.1,HE.out.2,results_cell_tmp rfl]
    go_simp
    try rfl
set_option maxHeartbeats 3200000 in
theorem sdec_any (ao:Option Addr) (len cap:Nat) (zs:List Int) (w:World) (hA:Arg w ao len cap zs):Calls Tryz.prog 45 #[.slice ao len cap] w fun e w'=>e=.returned (.tuple #[(getSup zs).val,.int .i64 (getSupErr zs)])∧Below w.heap.size w w':=by
  have HA:=Lib.hid hA
  have HZ:Hid (∀ j,j < 5→(#[.int .i64 0,.int .i64 0,.int .i64 0,.int .i64 0,.int .i64 0]:Array Value)[j]?=some (.int .i64 0)):=Lib.hid (fun j hj=>by
    match j,hj with
    | 0,_ | 1,_ | 2,_ | 3,_ | 4,_=>rfl)
  have HI:Hid ((gotSup zs).in64):=Lib.hid (by
    unfold gotSup PSup.in64
    exact ⟨getOut_in hA.1.2.2.1 (by decide) (by decide),getOut_in hA.1.2.2.1 (by decide) (by decide),getOut_in hA.1.2.2.1 (by decide) (by decide),getOut_in hA.1.2.2.1 (by decide) (by decide),getOut_in hA.1.2.2.1 (by decide) (by decide)⟩)
  have cP:=fun (W:World)=>superPlaces_any (w.heap.size+1) W
  have HR:Hid (∀ W,Rd w (w.heap.size+1+1) (w.heap.size+1) supPs 5 zs 0 W→w.heap.size+1 < W.heap.size→Calls Tryz.prog 87 #[.slice ao len cap,.slice (some ⟨w.heap.size+1+1,0,none⟩) (5:Nat) (5:Nat)] W fun e w'=>e=.returned (.tuple #[])∧Rd w (w.heap.size+1+1) (w.heap.size+1) supPs 5 zs 5 w'∧W.heap.size≤w'.heap.size∧∀ b,b < W.heap.size→b≠w.heap.size+1→w'.heap[b]?=W.heap[b]?):=
    Lib.hid (fun W hR hg=>read_any ao len cap zs (w.heap.size+1+1) (w.heap.size+1) 5 supPs w W HA.out rfl (by decide) small_sup (by omega) hg (by omega) hR)
  have cE:=fun (W:World)=>senc_any (gotSup zs) W HI.out
  have HG:Hid (gotSup zs=gotSup zs):=Lib.hid rfl
  clear hA
  rcases sup_ways zs with ⟨hs,hb,hg,he⟩ | ⟨hs,hb,hg,he⟩ | ⟨hs,hg,he⟩
  · unfold supOut supErr at cE
    rw [hs] at cE
    have HE:=Lib.hid (And.intro hg he)
    rw [if_pos rfl,if_pos rfl] at cE
    generalize supBlock (gotSup zs)=O at *
    have HD:Hid (decide (O=zs)=true):=Lib.hid (decide_eq_true hb)
    clear hs hg he hb
    unfold gotSup PSup.val at cE
    go_enter Tryz.func45,Tryz.ntmps45
    go_wp2_with (first
      | (go_at_call 83;refine (cP _).mono ?_;rintro e w3 ⟨rfl,hp3,hb3⟩;have H3:=Lib.hid (dec_begun (zs:=zs) HZ.out hp3 hb3);clear hp3 hb3)
      | (go_at_call 87;refine (HR.out _ H3.out.1 H3.out.2.2.2).mono ?_;rintro e w4 ⟨rfl,hr4,hs4,hk4⟩;have H4:=Lib.hid (And.intro hr4 (And.intro hs4 hk4));have q0:=(dec_read H3.out.2 hr4 hs4 hk4 (Below.refl _ _)).2.2.1 0 (by decide);have q1:=(dec_read H3.out.2 hr4 hs4 hk4 (Below.refl _ _)).2.2.1 1 (by decide);have q2:=(dec_read H3.out.2 hr4 hs4 hk4 (Below.refl _ _)).2.2.1 2 (by decide);have q3:=(dec_read H3.out.2 hr4 hs4 hk4 (Below.refl _ _)).2.2.1 3 (by decide);have q4:=(dec_read H3.out.2 hr4 hs4 hk4 (Below.refl _ _)).2.2.1 4 (by decide);clear hr4 hs4 hk4)
      | (go_at_call 37;refine (cE _).mono ?_;rintro e w5 ⟨v5,rfl,hf5,hb5⟩;obtain ⟨a5,c5,rfl,hA5⟩:=fresh_form hf5;clear q0 q1 q2 q3 q4;have q0:=(dec_read H3.out.2 H4.out.1 H4.out.2.1 H4.out.2.2 hb5).2.2.1 0 (by decide);have z0:=(dec_read H3.out.2 H4.out.1 H4.out.2.1 H4.out.2.2 hb5).1 0 (by decide);have f0:=(dec_read H3.out.2 H4.out.1 H4.out.2.1 H4.out.2.2 hb5).2.1 0;have q1:=(dec_read H3.out.2 H4.out.1 H4.out.2.1 H4.out.2.2 hb5).2.2.1 1 (by decide);have z1:=(dec_read H3.out.2 H4.out.1 H4.out.2.1 H4.out.2.2 hb5).1 1 (by decide);have f1:=(dec_read H3.out.2 H4.out.1 H4.out.2.1 H4.out.2.2 hb5).2.1 1;have q2:=(dec_read H3.out.2 H4.out.1 H4.out.2.1 H4.out.2.2 hb5).2.2.1 2 (by decide);have z2:=(dec_read H3.out.2 H4.out.1 H4.out.2.1 H4.out.2.2 hb5).1 2 (by decide);have f2:=(dec_read H3.out.2 H4.out.1 H4.out.2.1 H4.out.2.2 hb5).2.1 2;have q3:=(dec_read H3.out.2 H4.out.1 H4.out.2.1 H4.out.2.2 hb5).2.2.1 3 (by decide);have z3:=(dec_read H3.out.2 H4.out.1 H4.out.2.1 H4.out.2.2 hb5).1 3 (by decide);have f3:=(dec_read H3.out.2 H4.out.1 H4.out.2.1 H4.out.2.2 hb5).2.1 3;have q4:=(dec_read H3.out.2 H4.out.1 H4.out.2.1 H4.out.2.2 hb5).2.2.1 4 (by decide);have z4:=(dec_read H3.out.2 H4.out.1 H4.out.2.1 H4.out.2.2 hb5).1 4 (by decide);have f4:=(dec_read H3.out.2 H4.out.1 H4.out.2.1 H4.out.2.2 hb5).2.1 4;have A5:=Lib.hid hA5;have B5:=Lib.hid (dec_read H3.out.2 H4.out.1 H4.out.2.1 H4.out.2.2 hb5).2.2.2;clear hf5 hb5 hA5)
      | (go_at_call 88;refine (bytesEq_any a5 ao _ c5 len cap O zs _ A5.out.1 (HA.out.later B5.out).1).mono ?_;rintro e w6 ⟨rfl,rfl⟩;rw [HD.out]))
    refine bodyPost_ret (v:=.tuple #[(getSup zs).val,.int .i64 (getSupErr zs)]) ?_ rfl ⟨rfl,(((((B5.out.setCell (Nat.le_refl _) _).setCell (Nat.le_refl _) _).setCell (Nat.le_refl _) _).setCell (Nat.le_refl _) _).setCell (Nat.le_refl _) _)⟩
    rw [HE.out.1,HE.out.2,results_cell_tmp rfl]
    go_simp
    try rfl
  · unfold supOut supErr at cE
    rw [hs] at cE
    have HE:=Lib.hid (And.intro hg he)
    rw [if_pos rfl,if_pos rfl] at cE
    generalize supBlock (gotSup zs)=O at *
    have HD:Hid (decide (O=zs)=false):=Lib.hid (decide_eq_false hb)
    clear hs hg he hb
    unfold gotSup PSup.val at cE
    go_enter Tryz.func45,Tryz.ntmps45
    go_wp2_with (first
      | (go_at_call 83;refine (cP _).mono ?_;rintro e w3 ⟨rfl,hp3,hb3⟩;have H3:=Lib.hid (dec_begun (zs:=zs) HZ.out hp3 hb3);clear hp3 hb3)
      | (go_at_call 87;refine (HR.out _ H3.out.1 H3.out.2.2.2).mono ?_;rintro e w4 ⟨rfl,hr4,hs4,hk4⟩;have H4:=Lib.hid (And.intro hr4 (And.intro hs4 hk4));have q0:=(dec_read H3.out.2 hr4 hs4 hk4 (Below.refl _ _)).2.2.1 0 (by decide);have q1:=(dec_read H3.out.2 hr4 hs4 hk4 (Below.refl _ _)).2.2.1 1 (by decide);have q2:=(dec_read H3.out.2 hr4 hs4 hk4 (Below.refl _ _)).2.2.1 2 (by decide);have q3:=(dec_read H3.out.2 hr4 hs4 hk4 (Below.refl _ _)).2.2.1 3 (by decide);have q4:=(dec_read H3.out.2 hr4 hs4 hk4 (Below.refl _ _)).2.2.1 4 (by decide);clear hr4 hs4 hk4)
      | (go_at_call 37;refine (cE _).mono ?_;rintro e w5 ⟨v5,rfl,hf5,hb5⟩;obtain ⟨a5,c5,rfl,hA5⟩:=fresh_form hf5;clear q0 q1 q2 q3 q4;have q0:=(dec_read H3.out.2 H4.out.1 H4.out.2.1 H4.out.2.2 hb5).2.2.1 0 (by decide);have z0:=(dec_read H3.out.2 H4.out.1 H4.out.2.1 H4.out.2.2 hb5).1 0 (by decide);have f0:=(dec_read H3.out.2 H4.out.1 H4.out.2.1 H4.out.2.2 hb5).2.1 0;have q1:=(dec_read H3.out.2 H4.out.1 H4.out.2.1 H4.out.2.2 hb5).2.2.1 1 (by decide);have z1:=(dec_read H3.out.2 H4.out.1 H4.out.2.1 H4.out.2.2 hb5).1 1 (by decide);have f1:=(dec_read H3.out.2 H4.out.1 H4.out.2.1 H4.out.2.2 hb5).2.1 1;have q2:=(dec_read H3.out.2 H4.out.1 H4.out.2.1 H4.out.2.2 hb5).2.2.1 2 (by decide);have z2:=(dec_read H3.out.2 H4.out.1 H4.out.2.1 H4.out.2.2 hb5).1 2 (by decide);have f2:=(dec_read H3.out.2 H4.out.1 H4.out.2.1 H4.out.2.2 hb5).2.1 2;have q3:=(dec_read H3.out.2 H4.out.1 H4.out.2.1 H4.out.2.2 hb5).2.2.1 3 (by decide);have z3:=(dec_read H3.out.2 H4.out.1 H4.out.2.1 H4.out.2.2 hb5).1 3 (by decide);have f3:=(dec_read H3.out.2 H4.out.1 H4.out.2.1 H4.out.2.2 hb5).2.1 3;have q4:=(dec_read H3.out.2 H4.out.1 H4.out.2.1 H4.out.2.2 hb5).2.2.1 4 (by decide);have z4:=(dec_read H3.out.2 H4.out.1 H4.out.2.1 H4.out.2.2 hb5).1 4 (by decide);have f4:=(dec_read H3.out.2 H4.out.1 H4.out.2.1 H4.out.2.2 hb5).2.1 4;have A5:=Lib.hid hA5;have B5:=Lib.hid (dec_read H3.out.2 H4.out.1 H4.out.2.1 H4.out.2.2 hb5).2.2.2;clear hf5 hb5 hA5)
      | (go_at_call 88;refine (bytesEq_any a5 ao _ c5 len cap O zs _ A5.out.1 (HA.out.later B5.out).1).mono ?_;rintro e w6 ⟨rfl,rfl⟩;rw [HD.out]))
    refine bodyPost_ret (v:=.tuple #[(getSup zs).val,.int .i64 (getSupErr zs)]) ?_ rfl ⟨rfl,(((((B5.out.setCell (Nat.le_refl _) _).setCell (Nat.le_refl _) _).setCell (Nat.le_refl _) _).setCell (Nat.le_refl _) _).setCell (Nat.le_refl _) _)⟩
    rw [HE.out.1,HE.out.2,results_cell_tmp rfl]
    go_simp
    try rfl
  · unfold supOut supErr at cE
    rw [hs] at cE
    have HE:=Lib.hid (And.intro hg he)
    rw [if_neg (by decide),if_neg (by decide)] at cE
    clear hs hg he
    unfold gotSup PSup.val at cE
    go_enter Tryz.func45,Tryz.ntmps45
    go_wp2_with (first
      | (go_at_call 83;refine (cP _).mono ?_;rintro e w3 ⟨rfl,hp3,hb3⟩;have H3:=Lib.hid (dec_begun (zs:=zs) HZ.out hp3 hb3);clear hp3 hb3)
      | (go_at_call 87;refine (HR.out _ H3.out.1 H3.out.2.2.2).mono ?_;rintro e w4 ⟨rfl,hr4,hs4,hk4⟩;have H4:=Lib.hid (And.intro hr4 (And.intro hs4 hk4));have q0:=(dec_read H3.out.2 hr4 hs4 hk4 (Below.refl _ _)).2.2.1 0 (by decide);have q1:=(dec_read H3.out.2 hr4 hs4 hk4 (Below.refl _ _)).2.2.1 1 (by decide);have q2:=(dec_read H3.out.2 hr4 hs4 hk4 (Below.refl _ _)).2.2.1 2 (by decide);have q3:=(dec_read H3.out.2 hr4 hs4 hk4 (Below.refl _ _)).2.2.1 3 (by decide);have q4:=(dec_read H3.out.2 hr4 hs4 hk4 (Below.refl _ _)).2.2.1 4 (by decide);clear hr4 hs4 hk4)
      | (go_at_call 37;refine (cE _).mono ?_;rintro e w5 ⟨v5,rfl,hf5,hb5⟩;obtain ⟨a5,c5,rfl,hA5⟩:=fresh_form hf5;clear q0 q1 q2 q3 q4;have q0:=(dec_read H3.out.2 H4.out.1 H4.out.2.1 H4.out.2.2 hb5).2.2.1 0 (by decide);have z0:=(dec_read H3.out.2 H4.out.1 H4.out.2.1 H4.out.2.2 hb5).1 0 (by decide);have f0:=(dec_read H3.out.2 H4.out.1 H4.out.2.1 H4.out.2.2 hb5).2.1 0;have q1:=(dec_read H3.out.2 H4.out.1 H4.out.2.1 H4.out.2.2 hb5).2.2.1 1 (by decide);have z1:=(dec_read H3.out.2 H4.out.1 H4.out.2.1 H4.out.2.2 hb5).1 1 (by decide);have f1:=(dec_read H3.out.2 H4.out.1 H4.out.2.1 H4.out.2.2 hb5).2.1 1;have q2:=(dec_read H3.out.2 H4.out.1 H4.out.2.1 H4.out.2.2 hb5).2.2.1 2 (by decide);have z2:=(dec_read H3.out.2 H4.out.1 H4.out.2.1 H4.out.2.2 hb5).1 2 (by decide);have f2:=(dec_read H3.out.2 H4.out.1 H4.out.2.1 H4.out.2.2 hb5).2.1 2;have q3:=(dec_read H3.out.2 H4.out.1 H4.out.2.1 H4.out.2.2 hb5).2.2.1 3 (by decide);have z3:=(dec_read H3.out.2 H4.out.1 H4.out.2.1 H4.out.2.2 hb5).1 3 (by decide);have f3:=(dec_read H3.out.2 H4.out.1 H4.out.2.1 H4.out.2.2 hb5).2.1 3;have q4:=(dec_read H3.out.2 H4.out.1 H4.out.2.1 H4.out.2.2 hb5).2.2.1 4 (by decide);have z4:=(dec_read H3.out.2 H4.out.1 H4.out.2.1 H4.out.2.2 hb5).1 4 (by decide);have f4:=(dec_read H3.out.2 H4.out.1 H4.out.2.1 H4.out.2.2 hb5).2.1 4;have A5:=Lib.hid hA5;have B5:=Lib.hid (dec_read H3.out.2 H4.out.1 H4.out.2.1 H4.out.2.2 hb5).2.2.2;clear hf5 hb5 hA5))
    refine bodyPost_ret (v:=.tuple #[(getSup zs).val,.int .i64 (getSupErr zs)]) ?_ rfl ⟨rfl,(((((B5.out.setCell (Nat.le_refl _) _).setCell (Nat.le_refl _) _).setCell (Nat.le_refl _) _).setCell (Nat.le_refl _) _).setCell (Nat.le_refl _) _)⟩
    rw [HE.out.1,HE.out.2,results_cell_tmp rfl]
    go_simp
    try rfl
end Go.Proofs.YtcefmpnijjcekaaGreatDoor
namespace Go.Proofs.YtcefmpnijjcekaaGreatDoor
open Ieee
theorem compare_scaled {A B a b p q:Int} (hp:0 < p) (hq:0 < q) (h1:A * p=a * q) (h2:B * p=b * q):compare A B=compare a b:=by
  have hlt:A < B ↔ a < b:=by
    rw [← Int.mul_lt_mul_right hp,h1,h2,Int.mul_lt_mul_right hq]
  have hgt:B < A ↔ b < a:=by
    rw [← Int.mul_lt_mul_right hp,h1,h2,Int.mul_lt_mul_right hq]
  show compareOfLessAndEq A B=compareOfLessAndEq a b
  unfold compareOfLessAndEq
  by_cases hl:a < b
  · rw [if_pos hl,if_pos (hlt.2 hl)]
  · have hl':¬ A < B:=fun h=>hl (hlt.1 h)
    rw [if_neg hl,if_neg hl']
    by_cases he:a=b
    · rw [if_pos he, if_pos (by have:¬ B < A:=fun h=>by have:=hgt.1 h;omega
                                omega)]
    · rw [if_neg he, if_neg (by have:B < A:=hgt.2 (by omega)
                                omega)]
theorem di_order {x y:Datum} {a b:Int} (hx:DIf x a) (hy:DIf y b):x.order y=some (compare a b):=by
  obtain ⟨s,m,i,rfl⟩:=hx.num
  obtain ⟨t,n,j,rfl⟩:=hy.num
  show some (compare (signed s m (i - min i j).toNat) (signed t n (j - min i j).toNat))=_
  congr 1
  generalize hbase:min i j=base
  have hi:base≤i:=by omega
  have hj:base≤j:=by omega
  refine compare_scaled (p:=2^(base+((-base).toNat:Int)).toNat) (q:=2^(-base).toNat) (Int.pow_pos (by decide)) (Int.pow_pos (by decide)) ?_ ?_
  · rw [← signed_add]
    have e1:(i - base).toNat+(base+((-base).toNat:Int)).toNat=(i+((-base).toNat:Int)).toNat:=by omega
    rw [e1,hx.at' _ (by omega)]
  · rw [← signed_add]
    have e2:(j - base).toNat+(base+((-base).toNat:Int)).toNat=(j+((-base).toNat:Int)).toNat:=by omega
    rw [e2,hy.at' _ (by omega)]
theorem di_integral {d:Datum} {n:Int} (h:DIf d n):DIf (d.integral .zero) n:=by
  obtain ⟨s,m,e,rfl⟩:=h.num
  have ht:=di_toInt h
  have ht2:signed s (Toward.zero.cut s (m <<< e.toNat) (-e).toNat) 0=n:=Option.some.inj ht
  exact ⟨s,_,0,0,rfl,by decide,by rw [Int.pow_zero,Int.mul_one];exact ht2⟩
theorem fi_order {x y:Nat} {a b:Int} (hx:FI x a) (hy:FI y b):FloatKind.f64.format.order x y=some (compare a b):=di_order hx hy
theorem compare_lt {a b:Int} (h:a < b):compare a b=.lt:=by
  show compareOfLessAndEq a b=_
  unfold compareOfLessAndEq
  rw [if_pos h]
theorem compare_gt {a b:Int} (h:b < a):compare a b=.gt:=by
  show compareOfLessAndEq a b=_
  unfold compareOfLessAndEq
  rw [if_neg (by omega),if_neg (by omega)]
theorem compare_eq (a:Int):compare a a=.eq:=by
  show compareOfLessAndEq a a=_
  unfold compareOfLessAndEq
  rw [if_neg (by omega),if_pos rfl]
theorem fi_lt {x y:Nat} {a b:Int} (hx:FI x a) (hy:FI y b) (h:a < b):FloatKind.f64.format.order x y=some .lt:=by
  rw [fi_order hx hy,compare_lt h]
theorem fi_gt {x y:Nat} {a b:Int} (hx:FI x a) (hy:FI y b) (h:b < a):FloatKind.f64.format.order x y=some .gt:=by
  rw [fi_order hx hy,compare_gt h]
theorem fi_eq {x y:Nat} {a b:Int} (hx:FI x a) (hy:FI y b) (h:a=b):FloatKind.f64.format.order x y=some .eq:=by
  rw [fi_order hx hy,h,compare_eq]
theorem fi_ge {x y:Nat} {a b:Int} (hx:FI x a) (hy:FI y b) (h:b≤a):(FloatKind.f64.format.order x y == some .gt||FloatKind.f64.format.order x y == some .eq)=true:=by
  rcases Int.lt_or_eq_of_le h with h | h
  · rw [fi_gt hx hy h];rfl
  · rw [fi_eq hx hy h.symm];rfl
theorem fi_le {x y:Nat} {a b:Int} (hx:FI x a) (hy:FI y b) (h:a≤b):(FloatKind.f64.format.order x y == some .lt||FloatKind.f64.format.order x y == some .eq)=true:=by
  rcases Int.lt_or_eq_of_le h with h | h
  · rw [fi_lt hx hy h];rfl
  · rw [fi_eq hx hy h];rfl
theorem fi_neg20:FI 13920626448202203136 (-1048576):=by
  have e:(13920626448202203136:Nat)=floatOfInt .f64 (-1048576):=by decide +kernel
  rw [e];exact fi_ofInt _ (by decide)
theorem fi_20:FI 4697254411347427328 1048576:=by
  have e:(4697254411347427328:Nat)=floatOfInt .f64 1048576:=by decide +kernel
  rw [e];exact fi_ofInt _ (by decide)
theorem fi_480:FI 4647151865492930560 480:=by
  have e:(4647151865492930560:Nat)=floatOfInt .f64 480:=by decide +kernel
  rw [e];exact fi_ofInt _ (by decide)
def cutBits (x:Nat):Nat:=FloatKind.f64.encode ((FloatKind.f64.decode x).integral .zero)
theorem fi_cut {x:Nat} {n:Int} (h:FI x n) (hn:n.natAbs < 9007199254740992):FI (cutBits x) n:=di_write (di_integral h) hn
end Go.Proofs.YtcefmpnijjcekaaGreatDoor
namespace Go.Proofs.YtcefmpnijjcekaaGreatDoor
open Go.RowKit
theorem archTrunc_any (x:Nat) (n:Int) (w:World) (h:FI x n) :
    (callFunc 261 #[.float .f64 x]).run Tryz.prog w=.ok (.value (.float .f64 (cutBits x))) w:=by
  rw [run_callFunc_extern Tryz.func261 (by kernel_rfl) (by kernel_rfl) (by kernel_rfl) (e:=Extern.MathFloor.toIntegral "math.archTrunc" .zero) (by kernel_rfl) _ w]
  obtain ⟨s,m,e,hd⟩:=(show DIf (FloatKind.f64.decode x) n from h).num
  have hr:Extern.MathFloor.toIntegral "math.archTrunc" .zero #[.float .f64 x]=pure (.float .f64 (cutBits x)):=by
    unfold cutBits
    rw [hd]
    conv=>lhs;whnf
    rw [hd]
  rw [hr]
  rfl
set_option maxHeartbeats 400000 in
theorem Trunc_any (x:Nat) (n:Int) (w:World) (h:FI x n) :
    Calls Tryz.prog 253 #[.float .f64 x] w fun e w'=>e=.returned (.float .f64 (cutBits x))∧w=w':=by
  have hd:∀ w,(callFunc 261 #[.float .f64 x]).run Tryz.prog w=.ok (.value (.float .f64 (cutBits x))) w:=fun w=>archTrunc_any x n w h
  clear h
  go_enter Tryz.func253,Tryz.ntmps253
  go_wp2
  go_ret
  exact ⟨rfl,rfl⟩
set_option maxHeartbeats 400000 in
theorem wholePart_any (x:Nat) (n:Int) (w:World) (h:FI x n) (h0:-1048576≤n) (h1:n≤1048576) :
    Calls Tryz.prog 233 #[.float .f64 x] w fun e w'=>e=.returned (.bool true)∧w=w':=by
  have c:=Trunc_any x n w h
  have o1:=fi_ge h fi_neg20 h0
  have o2:=fi_le h fi_20 h1
  have o3:=fi_eq h (fi_cut h (by omega)) rfl
  clear h
  go_enter Tryz.func233,Tryz.ntmps233
  go_wp2_with (go_at_call 253;refine c.mono ?_;rintro e w' ⟨rfl,rfl⟩)
  go_ret
  exact ⟨rfl,rfl⟩
set_option maxHeartbeats 400000 in
theorem Whole_any (x y:Nat) (a b:Int) (w:World) (hx:FI x a) (hy:FI y b) (ha:-1048576≤a∧a≤1048576) (hb:-1048576≤b∧b≤1048576) :
    Calls Tryz.prog 195 #[.complex .f64 x y] w fun e w'=>e=.returned (.bool true)∧w=w':=by
  have c1:=wholePart_any x a w hx ha.1 ha.2
  have c2:=wholePart_any y b w hy hb.1 hb.2
  go_enter Tryz.func195,Tryz.ntmps195
  go_wp2_with (go_at_call 233;first | ((with_reducible refine c1.mono ?_);rintro e w' ⟨rfl,rfl⟩) | ((with_reducible refine c2.mono ?_);rintro e w' ⟨rfl,rfl⟩))
  go_ret
  exact ⟨rfl,rfl⟩
set_option maxHeartbeats 400000 in
theorem Sound_any (x y:Nat) (a b:Int) (w:World) (hx:FI x a) (hy:FI y b) (h0:0≤a) (h1:1≤b) (h2:a+b≤480) :
    Calls Tryz.prog 153 #[.complex .f64 x y] w fun e w'=>e=.returned (.bool true)∧w=w':=by
  have c:=Whole_any x y a b w hx hy (by omega) (by omega)
  have o1:=fi_ge hx fi_zero h0
  have o2:=fi_ge hy fi_one h1
  obtain ⟨r,hr,hf⟩:=fi_add hx hy (by omega)
  have o3:=fi_le hf fi_480 h2
  have o4:∀ t w,(binOp .add t (.float .f64 x) (.float .f64 y)).run Tryz.prog w=.ok (.float .f64 r) w:=fun t w=>run_float_arith w .add t .f64 x y r hr
  clear hx hy hf
  go_enter Tryz.func153,Tryz.ntmps153
  go_wp2_with (go_at_call 195;refine c.mono ?_;rintro e w' ⟨rfl,rfl⟩)
  go_ret
  exact ⟨rfl,rfl⟩
set_option maxHeartbeats 400000 in
theorem Parts_any (x y:Nat) (a b:Int) (w:World) (hx:FI x a) (hy:FI y b) (h0:0≤a) (h1:1≤b) (h2:a+b≤480) :
    Calls Tryz.prog 98 #[.complex .f64 x y] w fun e w'=>e=.returned (.tuple #[.int .i64 a,.int .i64 b,.int .i64 0])∧w=w':=by
  have c:=Sound_any x y a b w hx hy h0 h1 h2
  have hv1:=fi_toInt .i64 hx (by show -9223372036854775808≤a;omega) (by show a≤9223372036854775807;omega)
  have hv2:=fi_toInt .i64 hy (by show -9223372036854775808≤b;omega) (by show b≤9223372036854775807;omega)
  have o1:∀ w,(convert 149 3 (.float .f64 x)).run Tryz.prog w=.ok (.int .i64 a) w:=fun w=>run_convert_float_int w 149 3 .f64 .i64 x a (by rw [Tryz.underlying149];rfl) Tryz.underlying3 hv1
  have o2:∀ w,(convert 149 3 (.float .f64 y)).run Tryz.prog w=.ok (.int .i64 b) w:=fun w=>run_convert_float_int w 149 3 .f64 .i64 y b (by rw [Tryz.underlying149];rfl) Tryz.underlying3 hv2
  clear hx hy hv1 hv2
  go_enter Tryz.func98,Tryz.ntmps98
  go_wp2_with (go_at_call 153;refine c.mono ?_;rintro e w' ⟨rfl,rfl⟩)
  go_ret3
  exact ⟨rfl,rfl⟩
end Go.Proofs.YtcefmpnijjcekaaGreatDoor
namespace Go.Proofs.YtcefmpnijjcekaaGreatDoor
open Go.RowKit
def runOk (a b:Int):Bool:=decide (0≤a∧1≤b∧a+b≤480)
def CX (v:Value) (a b:Int):Prop:=∃ x y,v=.complex .f64 x y∧FI x a∧FI y b
def smallR (a b:Int):Prop:=0≤a∧a≤65535∧0≤b∧b≤255
theorem runOk_true {a b:Int} (h:runOk a b=true):0≤a∧1≤b∧a+b≤480:=of_decide_eq_true h
theorem fi_ge_not {x y:Nat} {a b:Int} (hx:FI x a) (hy:FI y b) (h:a < b):(FloatKind.f64.format.order x y == some .gt||FloatKind.f64.format.order x y == some .eq)=false:=by
  rw [fi_lt hx hy h];rfl
theorem fi_le_not {x y:Nat} {a b:Int} (hx:FI x a) (hy:FI y b) (h:b < a):(FloatKind.f64.format.order x y == some .lt||FloatKind.f64.format.order x y == some .eq)=false:=by
  rw [fi_gt hx hy h];rfl
theorem fi_max {x y:Nat} {a b:Int} (hx:FI x a) (hy:FI y b):∃ r,FI r (max a b)∧∀ (ts:Array TypeId) (t:TypeId) (w:World),(Builtin.max_ ts t #[.float .f64 x,.float .f64 y]).run Tryz.prog w=.ok (.float .f64 r) w:=by
  rcases Int.lt_trichotomy a b with h | h | h
  · have o:=fi_lt hx hy h
    refine ⟨y,by rw [show max a b=b by omega];exact hy,fun ts t w=>?_⟩
    simp [Builtin.max_,Builtin.max2,o]
  · have o:=fi_eq hx hy h
    subst h
    refine ⟨if (FloatKind.f64.decode x).neg then y else x,?_,fun ts t w=>?_⟩
    · rw [show max a a=a by omega]
      split
      · exact hy
      · exact hx
    · simp [Builtin.max_,Builtin.max2,o]
  · have o:=fi_gt hx hy h
    refine ⟨x,by rw [show max a b=a by omega];exact hx,fun ts t w=>?_⟩
    simp [Builtin.max_,Builtin.max2,o]
theorem fi_min {x y:Nat} {a b:Int} (hx:FI x a) (hy:FI y b):∃ r,FI r (min a b)∧∀ (ts:Array TypeId) (t:TypeId) (w:World),(Builtin.min_ ts t #[.float .f64 x,.float .f64 y]).run Tryz.prog w=.ok (.float .f64 r) w:=by
  rcases Int.lt_trichotomy a b with h | h | h
  · have o:=fi_lt hx hy h
    refine ⟨x,by rw [show min a b=a by omega];exact hx,fun ts t w=>?_⟩
    simp [Builtin.min_,Builtin.min2,o]
  · have o:=fi_eq hx hy h
    subst h
    refine ⟨if (FloatKind.f64.decode x).neg then x else y,?_,fun ts t w=>?_⟩
    · rw [show min a a=a by omega]
      split
      · exact hx
      · exact hy
    · simp [Builtin.min_,Builtin.min2,o]
  · have o:=fi_gt hx hy h
    refine ⟨y,by rw [show min a b=b by omega];exact hy,fun ts t w=>?_⟩
    simp [Builtin.min_,Builtin.min2,o]
set_option maxHeartbeats 400000 in
theorem Sound_gen (x y:Nat) (a b:Int) (w:World) (hx:FI x a) (hy:FI y b) (hs:smallR a b) :
    Calls Tryz.prog 153 #[.complex .f64 x y] w fun e w'=>e=.returned (.bool (runOk a b))∧w=w':=by
  unfold smallR at hs
  by_cases h1:1≤b
  · by_cases h2:a+b≤480
    · rw [show runOk a b=true from decide_eq_true ⟨hs.1,h1,h2⟩]
      exact Sound_any x y a b w hx hy hs.1 h1 h2
    · rw [show runOk a b=false from decide_eq_false (fun h=>h2 h.2.2)]
      have c:=Whole_any x y a b w hx hy (by omega) (by omega)
      have o1:=fi_ge hx fi_zero hs.1
      have o2:=fi_ge hy fi_one h1
      obtain ⟨r,hr,hf⟩:=fi_add hx hy (by omega)
      have o3:=fi_le_not hf fi_480 (by omega)
      have o4:∀ t w,(binOp .add t (.float .f64 x) (.float .f64 y)).run Tryz.prog w=.ok (.float .f64 r) w:=fun t w=>run_float_arith w .add t .f64 x y r hr
      clear hx hy hf
      go_enter Tryz.func153,Tryz.ntmps153
      go_wp2_with (go_at_call 195;refine c.mono ?_;rintro e w' ⟨rfl,rfl⟩)
      go_ret
      exact ⟨rfl,rfl⟩
  · rw [show runOk a b=false from decide_eq_false (fun h=>h1 h.2.1)]
    have c:=Whole_any x y a b w hx hy (by omega) (by omega)
    have o1:=fi_ge hx fi_zero hs.1
    have o2:=fi_ge_not hy fi_one (by omega)
    clear hx hy
    go_enter Tryz.func153,Tryz.ntmps153
    go_wp2_with (go_at_call 195;refine c.mono ?_;rintro e w' ⟨rfl,rfl⟩)
    go_ret
    exact ⟨rfl,rfl⟩
def partA (a b:Int):Int:=if runOk a b=true then a else 0
def partB (a b:Int):Int:=if runOk a b=true then b else 0
def partE (a b:Int):Int:=if runOk a b=true then 0 else 2
set_option maxHeartbeats 400000 in
theorem Parts_gen (v:Value) (a b:Int) (w:World) (hv:CX v a b) (hs:smallR a b) :
    Calls Tryz.prog 98 #[v] w fun e w'=>e=.returned (.tuple #[.int .i64 (partA a b),.int .i64 (partB a b),.int .i64 (partE a b)])∧w=w':=by
  obtain ⟨x,y,rfl,hx,hy⟩:=hv
  unfold partA partB partE
  by_cases h:runOk a b=true
  · rw [if_pos h,if_pos h,if_pos h]
    have h':=runOk_true h
    exact Parts_any x y a b w hx hy h'.1 h'.2.1 h'.2.2
  · rw [if_neg h,if_neg h,if_neg h]
    rw [Bool.not_eq_true] at h
    have c:=Sound_gen x y a b w hx hy hs
    rw [h] at c
    clear hx hy hs h
    go_enter Tryz.func98,Tryz.ntmps98
    go_wp2_with (go_at_call 153;refine c.mono ?_;rintro e w' ⟨rfl,rfl⟩)
    go_ret3
    exact ⟨rfl,rfl⟩
def ofA (a b:Int):Int:=if b < 1 then 0 else a
def ofB (b:Int):Int:=if b < 1 then 0 else b
theorem cx_of {a b:Int} (ha:a.natAbs < 9007199254740992) (hb:b.natAbs < 9007199254740992):CX (.complex .f64 (floatOfInt .f64 a) (floatOfInt .f64 b)) a b:=⟨_,_,rfl,fi_ofInt _ ha,fi_ofInt _ hb⟩
theorem cx_zero:CX (.complex .f64 0 0) 0 0:=⟨_,_,rfl,fi_zero,fi_zero⟩
set_option maxHeartbeats 400000 in
theorem of_any (a b:Int) (w:World) (ha:a.natAbs < 100000) (hb:b.natAbs < 100000) :
    Calls Tryz.prog 100 #[.int .i64 a,.int .i64 b] w fun e w'=>∃ v,e=.returned v∧CX v (ofA a b) (ofB b)∧w=w':=by
  unfold ofA ofB
  by_cases h:b < 1
  · rw [if_pos h,if_pos h]
    go_enter Tryz.func100,Tryz.ntmps100
    go_wp2
    go_ret
    exact ⟨_,rfl,cx_zero,rfl⟩
  · rw [if_neg h,if_neg h]
    have HC:=Lib.hid (cx_of (a:=a) (b:=b) (by omega) (by omega))
    clear ha hb
    go_enter Tryz.func100,Tryz.ntmps100
    go_wp2
    go_ret
    exact ⟨_,rfl,HC.out,rfl⟩
set_option maxHeartbeats 400000 in
theorem Of_any (a b:Int) (w:World) (hs:smallR a b) :
    Calls Tryz.prog 62 #[.int .i64 a,.int .i64 b] w fun e w'=>∃ v,e=.returned (.tuple #[v,.int .i64 (if runOk a b=true then 0 else 1)])∧CX v (partA a b) (partB a b)∧w=w':=by
  unfold smallR at hs
  unfold partA partB
  by_cases h1:b < 1
  · have h:runOk a b=false:=decide_eq_false (by omega)
    rw [h]
    have h0:¬ a < 0:=by omega
    clear h hs
    go_enter Tryz.func62,Tryz.ntmps62
    go_wp2
    go_ret2
    exact ⟨_,rfl,cx_zero,rfl⟩
  · by_cases h2:a+b≤480
    · have h:runOk a b=true:=decide_eq_true (by omega)
      rw [h]
      have c:=of_any a b w (by omega) (by omega)
      unfold ofA ofB at c
      rw [if_neg h1,if_neg h1] at c
      have h0:¬ a < 0:=by omega
      have h3:¬ 480 - b < a:=by omega
      have h4:IntKind.i64.wrap (480 - b)=480 - b:=by rw [IntKind.wrap_i64];omega
      clear h hs
      go_enter Tryz.func62,Tryz.ntmps62
      go_wp2_with (go_at_call 100;refine c.mono ?_;rintro e w' ⟨v,rfl,hv,rfl⟩;have HV:=Lib.hid hv;clear hv)
      go_ret2
      exact ⟨v,rfl,HV.out,rfl⟩
    · have h:runOk a b=false:=decide_eq_false (by omega)
      rw [h]
      have h0:¬ a < 0:=by omega
      have h3:480 - b < a:=by omega
      have h4:IntKind.i64.wrap (480 - b)=480 - b:=by rw [IntKind.wrap_i64];omega
      clear h hs
      go_enter Tryz.func62,Tryz.ntmps62
      go_wp2
      go_ret2
      exact ⟨_,rfl,cx_zero,rfl⟩
set_option maxHeartbeats 400000 in
theorem unsound1_any (v:Value) (a b:Int) (w:World) (hv:CX v a b) (hs:smallR a b) :
    Calls Tryz.prog 270 #[v] w fun e w'=>e=.returned (.bool (!runOk a b))∧w=w':=by
  obtain ⟨x,y,rfl,hx,hy⟩:=hv
  have c:=Sound_gen x y a b w hx hy hs
  clear hx hy hs
  generalize runOk a b=t at *
  go_enter Tryz.func270,Tryz.ntmps270
  go_wp2_with (go_at_call 153;refine c.mono ?_;rintro e w' ⟨rfl,rfl⟩)
  go_ret
  exact ⟨rfl,rfl⟩
def RunsAre (xs:List Value):Prop:=∀ v ∈ xs,∃ a b,CX v a b∧runOk a b=true∧smallR a b
set_option maxRecDepth 100000 in
set_option maxHeartbeats 800000 in
theorem indexC_any {w:World} {ao:Option Addr} {m cap:Nat} {xs:List Value} (hV:Vals w ao m xs) (hR:RunsAre xs) :
    Calls Tryz.prog 214 #[.slice ao m cap,.func (.func 270) #[] #[]] w fun e w'=>e=.returned (.int .i64 (-1))∧w=w':=by
  obtain ⟨hl,hm,hc⟩:=hV
  have HR:=Lib.hid hR
  have HL:=Lib.hid hl
  have HC:=Lib.hid hc
  clear hR hl hc
  go_enter Tryz.func214,Tryz.ntmps214
  go_wp2_with fail
  go_loop [8] (fun iv=>∃ i:Nat,iv=.int .i64 (i:Int)∧i≤m) (fun iv=>m - (intOf iv).toNat)
  case atStart=>exact ⟨0,rfl,Nat.zero_le _⟩
  case round=>
    obtain ⟨i,rfl,hi⟩:=hrel
    by_cases hlt:i < m
    · obtain ⟨b,off,rfl,hc⟩:=HC.out.resolve_left (by omega)
      obtain ⟨v,hv⟩:∃ v,xs[i]?=some v:=⟨_,List.getElem?_eq_getElem (by rw [HL.out];exact hlt)⟩
      have hcell:=hc i v hv
      obtain ⟨p,q,hcx,hok,hsm⟩:=HR.out v (List.mem_of_getElem? hv)
      have cF:=unsound1_any v p q w hcx hsm
      rw [hok] at cF
      obtain ⟨x,y,rfl,_,_⟩:=hcx
      have i1:(i:Int) < (m:Int):=by omega
      clear hc hv hok hsm
      go_wp2_with (go_at_call 270;refine cF.mono ?_;rintro e w3 ⟨rfl,rfl⟩)
      go_round
      case rel=>exact ⟨i+1,by go_num,by omega⟩
      case measure=>simp [intOf];omega
    · have hin:i=m:=by omega
      subst hin
      go_wp2_with fail
      go_ret
      exact ⟨rfl,rfl⟩
theorem containsC_any {w:World} {ao:Option Addr} {m cap:Nat} {xs:List Value} (hV:Vals w ao m xs) (hR:RunsAre xs) :
    Calls Tryz.prog 269 #[.slice ao m cap,.func (.func 270) #[] #[]] w fun e w'=>e=.returned (.bool false)∧w=w':=by
  have c:=indexC_any (cap:=cap) hV hR
  clear hV hR
  go_enter Tryz.func269,Tryz.ntmps269
  go_wp2_with (go_at_call 214;refine c.mono ?_;rintro e w' ⟨rfl,rfl⟩)
  go_ret
  exact ⟨rfl,rfl⟩
theorem unsound_any {w:World} {ao:Option Addr} {m cap:Nat} {xs:List Value} (hV:Vals w ao m xs) (hR:RunsAre xs) :
    Calls Tryz.prog 264 #[.slice ao m cap] w fun e w'=>e=.returned (.bool false)∧w=w':=by
  have c:=containsC_any (cap:=cap) hV hR
  clear hV hR
  go_enter Tryz.func264,Tryz.ntmps264
  go_wp2_with (go_at_call 269;refine c.mono ?_;rintro e w' ⟨rfl,rfl⟩)
  go_ret
  exact ⟨rfl,rfl⟩
def meetF (a p:Int):Int:=max a p
def meetN (a b p q:Int):Int:=min (a+b) (p+q) - max a p
theorem two_vals (w:World) (u v:Value) (T:TypeId):Vals (w.alloc (.cells #[u,v] T)) (some ⟨w.heap.size,0,none⟩) 2 [u,v]:=
  ⟨rfl,by decide,Or.inr ⟨_,0,rfl,fun j x hj=>by
    rw [Nat.zero_add,World.cell?_alloc_new]
    match j,hj with
    | 0,hj=>simpa using hj
    | 1,hj=>simpa using hj
    | j+2,hj=>simp at hj⟩⟩
set_option maxHeartbeats 800000 in
theorem Meet_any (u v:Value) (a b p q:Int) (w:World) (hu:CX u a b) (hv:CX v p q) (h1:runOk a b=true) (h2:runOk p q=true) (hs1:smallR a b) (hs2:smallR p q) :
    Calls Tryz.prog 256 #[u,v] w fun e w'=>∃ r,e=.returned r∧CX r (ofA (meetF a p) (meetN a b p q)) (ofB (meetN a b p q))∧Below w.heap.size w w':=by
  obtain ⟨x,y,rfl,hx,hy⟩:=hu
  obtain ⟨z,t,rfl,hz,ht⟩:=hv
  have cU:=fun cap=>unsound_any (cap:=cap) (two_vals w (.complex .f64 x y) (.complex .f64 z t) 97) (fun v hv=>by
    rcases List.mem_cons.1 hv with rfl | hv
    · exact ⟨a,b,⟨_,_,rfl,hx,hy⟩,h1,hs1⟩
    · rw [List.mem_singleton] at hv
      subst hv
      exact ⟨p,q,⟨_,_,rfl,hz,ht⟩,h2,hs2⟩)
  have h1':=runOk_true h1
  have h2':=runOk_true h2
  obtain ⟨r1,f1,m1⟩:=fi_max hx hz
  obtain ⟨s1,g1,k1⟩:=fi_add hx hy (by omega)
  obtain ⟨s2,g2,k2⟩:=fi_add hz ht (by omega)
  obtain ⟨r2,f2,m2⟩:=fi_min k1 k2
  obtain ⟨r3,g3,f3⟩:=fi_sub f2 f1 (by omega)
  have o1:∀ t' w,(binOp .add t' (.float .f64 x) (.float .f64 y)).run Tryz.prog w=.ok (.float .f64 s1) w:=fun t' w=>run_float_arith w .add t' .f64 x y s1 g1
  have o2:∀ t' w,(binOp .add t' (.float .f64 z) (.float .f64 t)).run Tryz.prog w=.ok (.float .f64 s2) w:=fun t' w=>run_float_arith w .add t' .f64 z t s2 g2
  have o3:∀ t' w,(binOp .sub t' (.float .f64 r2) (.float .f64 r1)).run Tryz.prog w=.ok (.float .f64 r3) w:=fun t' w=>run_float_arith w .sub t' .f64 r2 r1 r3 g3
  have hv1:=fi_toInt .i64 f1 (by show -9223372036854775808≤_;omega) (by show _≤9223372036854775807;omega)
  have hv3:=fi_toInt .i64 f3 (by show -9223372036854775808≤_;omega) (by show _≤9223372036854775807;omega)
  have o4:∀ w,(convert 149 3 (.float .f64 r1)).run Tryz.prog w=.ok (.int .i64 (meetF a p)) w:=fun w=>run_convert_float_int w 149 3 .f64 .i64 r1 _ (by rw [Tryz.underlying149];rfl) Tryz.underlying3 hv1
  have o5:∀ w,(convert 149 3 (.float .f64 r3)).run Tryz.prog w=.ok (.int .i64 (meetN a b p q)) w:=fun w=>run_convert_float_int w 149 3 .f64 .i64 r3 _ (by rw [Tryz.underlying149];rfl) Tryz.underlying3 hv3
  have cO:=fun W=>of_any (meetF a p) (meetN a b p q) W (by unfold meetF;omega) (by unfold meetN;omega)
  have HB:Hid (Below w.heap.size w (w.alloc (.cells #[.complex .f64 x y,.complex .f64 z t] 97))):=Lib.hid ((Below.refl _ _).alloc (Nat.le_refl _) _)
  clear hx hy hz ht f1 f2 f3 k1 k2 g1 g2 g3 hv1 hv3 h1' h2' h1 h2 hs1 hs2
  generalize meetF a p=F at *
  generalize meetN a b p q=K at *
  go_enter Tryz.func256,Tryz.ntmps256
  go_wp2_with (first
    | (go_at_call 264;refine (cU _).mono ?_;rintro e w' ⟨rfl,rfl⟩)
    | (go_at_call 100;refine (cO _).mono ?_;rintro e w' ⟨r,rfl,hr,rfl⟩;have HR:=Lib.hid hr;clear hr))
  go_ret
  exact ⟨r,rfl,HR.out,HB.out⟩
end Go.Proofs.YtcefmpnijjcekaaGreatDoor
namespace Go.Proofs.YtcefmpnijjcekaaGreatDoor
open Go.RowKit
structure PX where
  a:Int
  f:Int
  c:Int
  deriving DecidableEq
structure PNode where
  k:Int
  f:Int
  l:Int
  z:Int
  d0:Int
  d1:Int
  d2:Int
  d3:Int
  s:Int
  t:Int
  x:List PX
  c:Int
  deriving DecidableEq
def ptrOk (p:Int):Bool:=decide (p=0∨59≤p∧p≤479)
def meetsX (x y:PX):Bool:=decide (1≤meetN x.f x.c y.f y.c)
def okX (e b:Int) (x:PX):Bool:=runOk x.f x.c&&(decide (59≤x.f)&&(decide (e≤x.a∧x.a≤96 - x.c)&&!decide (x.a=e∧x.f=b)))
def soundFrom (prev:List PX) (e b:Int):List PX→Bool
  | []=>true
  | x::r=>okX e b x&&(!(prev.any (meetsX x))&&soundFrom (prev ++ [x]) (x.a+x.c) (x.f+x.c) r)
def soundXs (l:List PX):Bool:=decide (l.length≤3)&&soundFrom [] 0 0 l
def noNode:PNode:=⟨0,0,0,0,0,0,0,0,0,0,[],0⟩
def PNode.ptrs (n:PNode):List Int:=[n.d0,n.d1,n.d2,n.d3,n.s,n.t]
def PNode.mapOk (n:PNode):Bool:=
  if n.f=1 then n.ptrs.all ptrOk&&(decide (n.x=[])&&decide (n.c=0))
  else if n.f=2 then n.ptrs.all (fun p=>decide (p=0))&&(soundXs n.x&&ptrOk n.c)
  else false
def PNode.headOk (n:PNode):Bool:=decide ((n.k=1∨n.k=2)∧1≤n.l∧n.l≤1000∧0≤n.z∧n.z≤6144)
def PNode.sound (n:PNode):Bool:=if n.k=0 then decide (n=noNode) else n.headOk&&n.mapOk
def pad (n:Nat) (l:List Int):List Int:=l ++ List.replicate (n - l.length) 0
def exB (l:List PX):List Int:=l.flatMap fun x=>leB x.a 1 ++ leB x.f 2 ++ leB x.c 1
def nodeH (n:PNode):List Int:=leB n.k 1 ++ leB n.f 1 ++ leB n.l 2 ++ leB n.z 2
def nodeP (n:PNode):List Int:=leB n.d0 2 ++ leB n.d1 2 ++ leB n.d2 2 ++ leB n.d3 2 ++ leB n.s 2 ++ leB n.t 2
def node28 (n:PNode):List Int:=pad 28 (if n.f=2 then pad 18 (nodeH n ++ exB n.x) ++ leB n.c 2 else nodeH n ++ nodeP n)
def node32 (n:PNode):List Int:=node28 n ++ leB (sumS (node28 n)) 4
def nodeErr (n:PNode):Int:=if n.sound=true then 0 else 2
def nodeOut (n:PNode):List Int:=if n.sound=true then node32 n else []
def smallX (x:PX):Prop:=(0≤x.a∧x.a≤255)∧smallR x.f x.c
def u16 (n:Int):Prop:=0≤n∧n≤65535
def PNode.small (n:PNode):Prop:=u16 n.k∧u16 n.f∧u16 n.l∧u16 n.z∧u16 n.d0∧u16 n.d1∧u16 n.d2∧u16 n.d3∧u16 n.s∧u16 n.t∧u16 n.c∧∀ x ∈ n.x,smallX x
def PNode.val (n:PNode) (v:Value):Value:=.agg #[.int .i64 n.k,.int .i64 n.f,.int .i64 n.l,.int .i64 n.z,.int .i64 n.d0,.int .i64 n.d1,.int .i64 n.d2,.int .i64 n.d3,.int .i64 n.s,.int .i64 n.t,v,.int .i64 n.c]
theorem st_cx:∀ (a:Addr) (x y:Nat) (m:Mode) (w:World),(store a (.complex .f64 x y) m).run Tryz.prog w=stored Tryz.prog w a (.complex .f64 x y) m:=fun a x y m w=>run_store Tryz.prog w a _ m rfl
/-! ### Extents in memory -/
def XIs (w:World) (ao:Option Addr) (len:Nat) (xs:List PX):Prop:=
  xs.length=len∧len≤3∧(len=0∨∃ b off,ao=some ⟨b,off,none⟩∧∀ i x,xs[i]?=some x→w.cell? ⟨b,off+i * 2,none⟩=some (.int .i64 x.a)∧∃ v,w.cell? ⟨b,off+i * 2+1,none⟩=some v∧CX v x.f x.c)
theorem XIs.later {w w':World} {ao:Option Addr} {len:Nat} {xs:List PX} (h:XIs w ao len xs) (hb:Below w.heap.size w w'):XIs w' ao len xs:=by
  obtain ⟨h1,h2,h3⟩:=h
  refine ⟨h1,h2,?_⟩
  rcases h3 with h3 | ⟨b,off,rfl,hc⟩
  · exact Or.inl h3
  · refine Or.inr ⟨b,off,rfl,fun i x hx=>?_⟩
    obtain ⟨c1,v,c2,c3⟩:=hc i x hx
    exact ⟨cell_later hb c1,v,cell_later hb c2,c3⟩
theorem XIs.nil (w:World):XIs w none 0 []:=⟨rfl,by decide,Or.inl rfl⟩
theorem XIs.at {w:World} {ao:Option Addr} {len:Nat} {xs:List PX} (h:XIs w ao len xs) {i:Nat} (hi:i < len) :
    ∃ b off x p q,ao=some ⟨b,off,none⟩∧xs[i]?=some x∧x ∈ xs∧w.cell? ⟨b,off+i * 2,none⟩=some (.int .i64 x.a)∧w.cell? ⟨b,off+i * 2+1,none⟩=some (.complex .f64 p q)∧FI p x.f∧FI q x.c:=by
  obtain ⟨h1,h2,h3⟩:=h
  obtain ⟨b,off,rfl,hc⟩:=h3.resolve_left (by omega)
  obtain ⟨x,hx⟩:∃ x,xs[i]?=some x:=⟨_,List.getElem?_eq_getElem (by omega)⟩
  obtain ⟨c1,v,c2,p,q,rfl,f1,f2⟩:=hc i x hx
  exact ⟨b,off,x,p,q,rfl,hx,List.mem_of_getElem? hx,c1,c2,f1,f2⟩
theorem XIs.take {w:World} {b off len:Nat} {xs:List PX} (h:XIs w (some ⟨b,off,none⟩) len xs) {k:Nat} (hk:k≤len):XIs w (some ⟨b,off,none⟩) k (xs.take k):=by
  obtain ⟨h1,h2,h3⟩:=h
  refine ⟨by rw [List.length_take];omega,by omega,?_⟩
  by_cases h0:k=0
  · exact Or.inl h0
  · obtain ⟨b',off',he,hc⟩:=h3.resolve_left (by omega)
    refine Or.inr ⟨b',off',he,fun i x hx=>hc i x ?_⟩
    rw [List.getElem?_take] at hx
    split at hx
    · exact hx
    · cases hx
theorem any_take_x {p:PX→Bool} {l:List PX} {i:Nat} {x:PX} (h:l[i]?=some x) (h0:(l.take i).any p=false):(l.take (i+1)).any p=p x:=by
  rw [List.take_add_one,h,List.any_append,h0]
  simp
theorem any_of_take_x {p:PX→Bool} {l:List PX} {i:Nat} (h:(l.take i).any p=true):l.any p=true:=by
  rw [List.any_eq_true] at h ⊢
  obtain ⟨x,hx,hp⟩:=h
  exact ⟨x,List.mem_of_mem_take hx,hp⟩
theorem drop_at {l:List PX} {i:Nat} {x:PX} (h:l[i]?=some x):l.drop i=x::l.drop (i+1):=by
  obtain ⟨hi,he⟩:=List.getElem?_eq_some_iff.1 h
  rw [List.drop_eq_getElem_cons hi,he]
theorem take_at {l:List PX} {i:Nat} {x:PX} (h:l[i]?=some x):l.take (i+1)=l.take i ++ [x]:=by
  rw [List.take_add_one,h]
  rfl
theorem soundFrom_at {l:List PX} {i:Nat} {x:PX} {e b:Int} (h:l[i]?=some x):soundFrom (l.take i) e b (l.drop i)=(okX e b x&&(!((l.take i).any (meetsX x))&&soundFrom (l.take (i+1)) (x.a+x.c) (x.f+x.c) (l.drop (i+1)))):=by
  rw [drop_at h,take_at h]
  rfl
end Go.Proofs.YtcefmpnijjcekaaGreatDoor
