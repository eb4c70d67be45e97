/- Proved here: what the landed node's read answers of any bytes. The conditions stand at each theorem. Proved here: what the landed node's Decode answers of any bytes. The conditions stand at each theorem. Proved here: what the landed image's state answers: its flags, its Super, a half of a block of nodes, setting these. The conditions stand at each theorem. Proved here: what .. -/
import Derived.Test.YtcefmpnijjcekaaGreatDoorTk5
import Derived.Test.YtcefmpnijjcekaaGreatDoorTk6
import Derived.Laws.ResultCell
import Derived.Test.YtcefmpnijjcekaaGreatDoorTk1
import Derived.Test.YtcefmpnijjcekaaGreatDoorTk3
set_option linter.unusedVariables false
set_option linter.unusedSimpArgs false
namespace Go.Proofs.YtcefmpnijjcekaaGreatDoor
open Go.RowKit
def pad64n (zs:List Int):List Int:=lay zeros64n 0 (zs.take 64)
theorem pad64n_length (zs:List Int):(pad64n zs).length=64:=by unfold pad64n;rw [lay_length];rfl
theorem bts_cut9 {w:World} {ao:Option Addr} {m k:Nat} {zs:List Int} (h:Bts w ao m zs) (hk:k≤m):Bts w ao k (zs.take k):=by
  obtain ⟨h1,h2,h3,h4⟩:=h
  refine ⟨by rw [List.length_take];omega,by omega,fun z hz=>h3 z (List.mem_of_mem_take hz),?_⟩
  rcases h4 with h4 | ⟨b,off,rfl,hc⟩
  · exact Or.inl (by omega)
  · exact Or.inr ⟨b,off,rfl,fun j hj=>by rw [take_getD _ _ _ hj];exact hc j (by omega)⟩
theorem own_copy_min9 {base g:Nat} {w0 w:World} (hO:Own base w0 g zeros64n w) (ao:Option Addr) (m c:Nat) (zs:List Int) (hB:Bts w ao m zs) (ty:TypeId) :
    ∃ v' w',(Builtin.copy_ #[44,44] ty #[.slice (some ⟨g,0,none⟩) 64 64,.slice ao m c]).run Tryz.prog w=.ok v' w'∧Own base w0 g (pad64n zs) w':=by
  have hl0:zs.length=m:=hB.1
  cases ao with
  | none=>
    have hz:zs=[]∧m=0:=by
      rcases hB.2.2.2 with h0 | ⟨b,o,he,_⟩
      · exact ⟨List.length_eq_zero_iff.1 (by rw [hB.1,h0]),h0⟩
      · cases he
    obtain ⟨rfl,rfl⟩:=hz
    exact ⟨_,_,run_copy_none (P:=Tryz.prog) w 44 44 ty 5 _ none 64 64 0 c Tryz.underlying44 size5 (by simp),hO⟩
  | some ad=>
    have hBk:=bts_cut9 (k:=min m 64) hB (Nat.min_le_left _ _)
    have htk:zs.take (min m 64)=zs.take 64:=by
      by_cases h:m≤64
      · rw [Nat.min_eq_left h,List.take_of_length_le (by omega),List.take_of_length_le (by omega)]
      · rw [Nat.min_eq_right (by omega)]
    rw [htk] at hBk
    have hl:((zs.take 64).map (Value.int .u8)).length=min m 64:=by rw [List.length_map,hBk.1]
    have hr:=run_copy_cells (P:=Tryz.prog) w 44 44 ty 5 g 0 64 64 ad m c ((zs.take 64).map (Value.int .u8)) Tryz.underlying44 size5 hl (bts_news hBk rfl)
      (fun j hj=>by rw [Nat.zero_add];rw [hO.2.1 j (by show j < 64;omega)];rfl) (fun j _=>hO.2.2.1 _) (one_cells _)
    exact ⟨_,_,hr,hO.fill (zs.take 64) zeros64n 0 w (by show 0+_≤64;rw [List.length_take];omega) hBk.2.2.1⟩
def readV (L:List Int):Nat→Int:=gotV L (bodyPs (gotV L headPs9 (fun _=>0) 1)) (gotV L headPs9 (fun _=>0))
def readN (L:List Int):PNode:=⟨readV L 0,readV L 1,readV L 2,readV L 3,readV L 4,readV L 5,readV L 6,readV L 7,readV L 8,readV L 9,gotX [⟨readV L 12,readV L 13,readV L 14⟩,⟨readV L 15,readV L 16,readV L 17⟩,⟨readV L 18,readV L 19,readV L 20⟩],readV L 11⟩
theorem getOut_small {L:List Int} (hz:∀ z ∈ L,0≤z∧z≤255) (p:Int):(0≤getOut L p 1∧getOut L p 1≤255)∧(0≤getOut L p 2∧getOut L p 2≤65535):=by
  unfold getOut
  refine ⟨?_,?_⟩
  · split
    · have ho:=fErr_ok (by assumption)
      have h:=leN_bounds hz p.toNat 1 (by omega)
      have e:(256:Int)^1=256:=rfl
      have e1:Int.toNat 1=1:=rfl
      rw [e1]
      omega
    · decide
  · split
    · have ho:=fErr_ok (by assumption)
      have h:=leN_bounds hz p.toNat 2 (by omega)
      have e:(256:Int)^2=65536:=rfl
      have e1:Int.toNat 2=2:=rfl
      rw [e1]
      omega
    · decide
theorem readV_small {L:List Int} (hz:∀ z ∈ L,0≤z∧z≤255):(∀ o,0≤readV L o∧readV L o≤65535)∧(readV L 12≤255∧readV L 14≤255∧readV L 15≤255∧readV L 17≤255∧readV L 18≤255∧readV L 20≤255):=by
  have main:∀ (ps:List Pl) (V:Nat→Int) (o:Nat),(∀ p ∈ ps,p.2.1=1∨p.2.1=2)→(0≤V o∧V o≤65535)→0≤gotV L ps V o∧gotV L ps V o≤65535:=by
    intro ps
    induction ps with
    | nil=>exact fun V o _ h=>h
    | cons p r ih=>
      intro V o hp hV
      refine ih _ o (fun q hq=>hp q (List.mem_cons_of_mem _ hq)) ?_
      simp only
      split
      · have g:=getOut_small hz p.1
        rcases hp p (by simp) with e | e
        · rw [e];omega
        · rw [e];exact g.2
      · exact hV
  have one:∀ (ps:List Pl) (V:Nat→Int) (o:Nat),(∀ p ∈ ps,p.2.2=o→p.2.1=1)→V o≤255→gotV L ps V o≤255:=by
    intro ps
    induction ps with
    | nil=>exact fun V o _ h=>h
    | cons p r ih=>
      intro V o hp hV
      refine ih _ o (fun q hq=>hp q (List.mem_cons_of_mem _ hq)) ?_
      simp only
      split
      · have g:=getOut_small hz p.1
        rw [hp p (by simp) (by omega)]
        exact g.1.2
      · exact hV
  have hb:∀ f,∀ p ∈ bodyPs f,p.2.1=1∨p.2.1=2:=by
    intro f
    unfold bodyPs
    split
    · unfold oldPs;decide
    · split
      · unfold newPs slotPs;decide
      · simp
  have hh:∀ p ∈ headPs9,p.2.1=1∨p.2.1=2:=by unfold headPs9;decide
  have h1:∀ o,(o=12∨o=14∨o=15∨o=17∨o=18∨o=20)→readV L o≤255:=by
    intro o ho
    refine one _ _ o ?_ (one _ _ o ?_ (by decide))
    · intro p hp e
      subst e
      unfold bodyPs at hp
      split at hp
      · revert ho;revert p;unfold oldPs;decide
      · split at hp
        · revert ho;revert p;unfold newPs slotPs;decide
        · cases hp
    · intro p hp e
      subst e
      revert ho;revert p;unfold headPs9;decide
  exact ⟨fun o=>main _ _ o (hb _) (main _ _ o hh (by decide)),h1 12 (by decide),h1 14 (by decide),h1 15 (by decide),h1 17 (by decide),h1 18 (by decide),h1 20 (by decide)⟩
theorem gotX_small {ts:List PX} (h:∀ x ∈ ts,smallX x):∀ x ∈ gotX ts,smallX x:=by
  intro x hx
  unfold gotX at hx
  obtain ⟨y,hy,rfl⟩:=List.mem_map.1 hx
  have hy':=h y ((List.takeWhile_sublist _).mem hy)
  unfold smallX smallR at *
  unfold fixX partA partB
  simp only
  split <;> omega
theorem readN_small {L:List Int} (hz:∀ z ∈ L,0≤z∧z≤255):(readN L).small:=by
  obtain ⟨h,h12,h14,h15,h17,h18,h20⟩:=readV_small hz
  refine ⟨h 0,h 1,h 2,h 3,h 4,h 5,h 6,h 7,h 8,h 9,h 11,gotX_small (fun x hx=>?_)⟩
  simp only [List.mem_cons,List.mem_nil_iff,or_false] at hx
  have a12:=h 12
  have a13:=h 13
  have a14:=h 14
  have a15:=h 15
  have a16:=h 16
  have a17:=h 17
  have a18:=h 18
  have a19:=h 19
  have a20:=h 20
  unfold smallX smallR
  rcases hx with rfl | rfl | rfl
  · exact ⟨⟨a12.1,h12⟩,a13.1,a13.2,a14.1,h14⟩
  · exact ⟨⟨a15.1,h15⟩,a16.1,a16.2,a17.1,h17⟩
  · exact ⟨⟨a18.1,h18⟩,a19.1,a19.2,a20.1,h20⟩
theorem XIs.setCell {w:World} {ao:Option Addr} {m g k:Nat} {xs:List PX} {v:Value} (h:XIs w ao m xs) (hne:∀ b o s,ao=some ⟨b,o,s⟩→b≠g):XIs (w.setCell ⟨g,k,none⟩ v) ao m xs:=by
  obtain ⟨h1,h2,h3⟩:=h
  refine ⟨h1,h2,?_⟩
  rcases h3 with h3 | ⟨b,off,rfl,hc⟩
  · exact Or.inl h3
  · have hb:=hne b off none rfl
    refine Or.inr ⟨b,off,rfl,fun i x hx=>?_⟩
    obtain ⟨c1,u,c2,c3⟩:=hc i x hx
    exact ⟨by rw [World.cell?_setCell_other (h:=by intro e;exact hb (by simpa using (congrArg Addr.block e).symm))];exact c1,u,by rw [World.cell?_setCell_other (h:=by intro e;exact hb (by simpa using (congrArg Addr.block e).symm))];exact c2,c3⟩
theorem XIs.setCells {ao:Option Addr} {m g:Nat} {xs:List PX} (hne:∀ b o s,ao=some ⟨b,o,s⟩→b≠g):∀ (vs:List Value) (o:Nat) (w:World),XIs w ao m xs→XIs (w.setCells g o vs) ao m xs
  | [],_,_,h=>h
  | v::r,o,w,h=>XIs.setCells hne r (o+1) _ (h.setCell hne)
theorem rd_new (w2:World):Rd9 w2 w2.heap.size (fun _=>0) (w2.alloc (.cells #[.int .i64 0,.int .i64 0,.int .i64 0,.int .i64 0,.int .i64 0,.int .i64 0,.int .i64 0,.int .i64 0,.int .i64 0,.int .i64 0,.slice none 0 0,.int .i64 0,.int .i64 0,.int .i64 0,.int .i64 0,.int .i64 0,.int .i64 0,.int .i64 0,.int .i64 0,.int .i64 0,.int .i64 0] 206)):=by
  refine ⟨(Below.refl _ _).alloc (Nat.le_refl _) _,fun o ho hne=>?_,?_,fun j=>by rw [World.frozen?_alloc_mark];simp⟩
  · rw [World.cell?_alloc_new]
    match o,ho,hne with
    | 0,_,_ | 1,_,_ | 2,_,_ | 3,_,_ | 4,_,_ | 5,_,_ | 6,_,_ | 7,_,_ | 8,_,_ | 9,_,_ | 11,_,_ | 12,_,_ | 13,_,_ | 14,_,_ | 15,_,_ | 16,_,_ | 17,_,_ | 18,_,_ | 19,_,_ | 20,_,_=>rfl
    | 10,_,h=>exact absurd rfl h
    | o+21,h,_=>exact absurd h (by omega)
  · rw [World.cell?_alloc_new];rfl
theorem there_later {w w2:World} {T:TypeId} {cs:Array Value} {n:Nat} (hb:Below (w.alloc (.cells cs T)).heap.size (w.alloc (.cells cs T)) w2) (hn:cs.size=n):w2.there w.heap.size 0 n:=by
  have h:=there_new w cs T hn
  intro j hj
  obtain ⟨h1,h2⟩:=h j hj
  obtain ⟨v,hv⟩:=Option.isSome_iff_exists.1 h1
  refine ⟨by rw [cell_later hb hv];rfl,?_⟩
  rw [hb.frozen (p:=⟨w.heap.size,0+j,none⟩) (by simp)]
  exact h2
theorem there_kept {w w2:World} {b n:Nat} (h:w.there b 0 n) (hn:0 < n) (hb:Below w.heap.size w w2):w2.there b 0 n:=by
  have hlt:b < w.heap.size:=by
    obtain ⟨v,hv⟩:=Option.isSome_iff_exists.1 (h 0 hn).1
    exact World.block_lt_of_cell? _ _ hv
  intro j hj
  obtain ⟨h1,h2⟩:=h j hj
  obtain ⟨v,hv⟩:=Option.isSome_iff_exists.1 h1
  refine ⟨by rw [cell_later hb hv];rfl,?_⟩
  rw [hb.frozen (p:=⟨b,0+j,none⟩) hlt]
  exact h2
theorem there_set {w:World} {b n g k:Nat} {v:Value} (h:w.there b 0 n) (hne:g≠b):(w.setCell ⟨g,k,none⟩ v).there b 0 n:=by
  intro j hj
  obtain ⟨h1,h2⟩:=h j hj
  exact ⟨by rw [World.cell?_setCell_other (h:=by intro e;exact hne (by simpa using congrArg Addr.block e))];exact h1,by simpa using h2⟩
theorem readX_small {L:List Int} (hz:∀ z ∈ L,0≤z∧z≤255):smallX ⟨readV L 12,readV L 13,readV L 14⟩∧smallX ⟨readV L 15,readV L 16,readV L 17⟩∧smallX ⟨readV L 18,readV L 19,readV L 20⟩:=by
  obtain ⟨h,h12,h14,h15,h17,h18,h20⟩:=readV_small hz
  exact ⟨⟨⟨(h 12).1,h12⟩,(h 13).1,(h 13).2,(h 14).1,h14⟩,⟨⟨(h 15).1,h15⟩,(h 16).1,(h 16).2,(h 17).1,h17⟩,⟨(h 18).1,h18⟩,(h 19).1,(h 19).2,(h 20).1,h20⟩
theorem below_setCell9 {w w8:World} {g:Nat} (h:Below w.heap.size w w8) (hlt:w.heap.size < g) (xo:Option Addr) (m xc:Nat):Below w.heap.size w (w8.setCell ⟨g,10,none⟩ (.slice xo m xc)):=h.setCell (p:=⟨g,10,none⟩) (Nat.le_of_lt hlt) _
set_option maxRecDepth 100000 in
set_option maxHeartbeats 6400000 in
theorem read9_any (ao:Option Addr) (len cap:Nat) (zs:List Int) (w:World) (hA:Arg w ao len cap zs) :
    Calls Tryz.prog 91 #[.slice ao len cap] w fun e w'=>∃ xo m xc,e=.returned ((readN (pad64n zs)).val (.slice xo m xc))∧XIs w' xo m (readN (pad64n zs)).x∧(m≤xc∧xc≤9223372036854775807)∧(∀ b o s,xo=some ⟨b,o,s⟩→w.heap.size≤b)∧Below w.heap.size w w':=by
  obtain ⟨L,hL⟩:∃ L,pad64n zs=L:=⟨_,rfl⟩
  have HL64:Hid (L.length=64):=Lib.hid (by rw [← hL,pad64n_length])
  have hLL:=Lib.hid hL
  rw [hL]
  have hB1:Below w.heap.size w (w.alloc (.cells #[.int .i64 0,.int .i64 0,.int .i64 0,.int .i64 0,.int .i64 0,.int .i64 0,.int .i64 0,.int .i64 0,.int .i64 0,.int .i64 0,.slice none 0 0,.int .i64 0] 68)):=(Below.refl _ _).alloc (Nat.le_refl _) _
  have hmk:=run_make_bytes (w.alloc (.cells #[.int .i64 0,.int .i64 0,.int .i64 0,.int .i64 0,.int .i64 0,.int .i64 0,.int .i64 0,.int .i64 0,.int .i64 0,.int .i64 0,.slice none 0 0,.int .i64 0] 68)) 64 (by decide)
  rw [show ((64:Nat):Int)=64 from rfl] at hmk
  have hO:=made_own (w.alloc (.cells #[.int .i64 0,.int .i64 0,.int .i64 0,.int .i64 0,.int .i64 0,.int .i64 0,.int .i64 0,.int .i64 0,.int .i64 0,.int .i64 0,.slice none 0 0,.int .i64 0] 68)) 64
  have hBB:=(hA.1.later hB1).later hO.2.2.2.2
  have HTH:Hid (∀ W,Below (w.alloc (.cells #[.int .i64 0,.int .i64 0,.int .i64 0,.int .i64 0,.int .i64 0,.int .i64 0,.int .i64 0,.int .i64 0,.int .i64 0,.int .i64 0,.slice none 0 0,.int .i64 0] 68)).heap.size (w.alloc (.cells #[.int .i64 0,.int .i64 0,.int .i64 0,.int .i64 0,.int .i64 0,.int .i64 0,.int .i64 0,.int .i64 0,.int .i64 0,.int .i64 0,.slice none 0 0,.int .i64 0] 68)) W→W.there w.heap.size 0 12):=Lib.hid (fun W hW=>there_later hW rfl)
  rw [World.size_alloc] at hmk hO HTH
  have HO:=Lib.hid hO
  have HBB:=Lib.hid hBB
  have HB1:=Lib.hid hB1
  clear hL hB1 hA hO hBB
  generalize (w.alloc (.cells #[.int .i64 0,.int .i64 0,.int .i64 0,.int .i64 0,.int .i64 0,.int .i64 0,.int .i64 0,.int .i64 0,.int .i64 0,.int .i64 0,.slice none 0 0,.int .i64 0] 68)).alloc (.cells (madeCells #[.int .u8 0] 64) 5)=W2 at *
  have hV1:gotV L (bodyPs (gotV L headPs9 (fun _=>0) 1)) (gotV L headPs9 (fun _=>0))=readV L:=rfl
  have HV1:=Lib.hid hV1
  have HN:Hid (∀ v,(readN L).val v=.agg #[.int .i64 (readV L 0),.int .i64 (readV L 1),.int .i64 (readV L 2),.int .i64 (readV L 3),.int .i64 (readV L 4),.int .i64 (readV L 5),.int .i64 (readV L 6),.int .i64 (readV L 7),.int .i64 (readV L 8),.int .i64 (readV L 9),v,.int .i64 (readV L 11)]):=Lib.hid (fun v=>rfl)
  have HX:Hid ((readN L).x=gotX [⟨readV L 12,readV L 13,readV L 14⟩,⟨readV L 15,readV L 16,readV L 17⟩,⟨readV L 18,readV L 19,readV L 20⟩]):=Lib.hid rfl
  clear hV1
  go_enter Tryz.func91,Tryz.ntmps91
  go_wp2_with (first
    | (refine wp_copy rfl (.tmp 6) (.tmp 7) 44 44 rfl _ _ rfl rfl _ (own_copy_min9 HO.out ao len cap zs HBB.out _) ?_;rintro v2 w2 hO2;rw [hLL.out] at hO2;have HAL:Hid (Arg w2 (some ⟨w.heap.size+1,0,none⟩) 64 64 L):=Lib.hid ⟨(by have hb:=hO2.bts (by rw [HL64.out];decide);rw [HL64.out] at hb;exact hb),(fun h=>by cases h),Nat.le_refl _,by decide⟩;have HZB:=Lib.hid hO2.1;have HT2:=Lib.hid (HTH.out w2 hO2.2.2.2.2);have HBW2:=Lib.hid (HB1.out.trans (hO2.2.2.2.2.mono (Nat.le_succ _)));have HLT:Hid (w.heap.size < w2.heap.size):=Lib.hid (Nat.lt_of_lt_of_le (Nat.lt_succ_self _) (by have h0:=hO2.2.2.2.2.size;rw [World.size_alloc] at h0;exact h0));have HR0:=Lib.hid (rd_new w2);clear hO2)
    | (go_at_call 147;refine (fromSlots_any ⟨readV L 12,readV L 13,readV L 14⟩ ⟨readV L 15,readV L 16,readV L 17⟩ ⟨readV L 18,readV L 19,readV L 20⟩ _ (HSM.out.1) (HSM.out.2.1) (HSM.out.2.2)).mono ?_;rintro e w8 ⟨xo,m,xc,rfl,hx8,hc8,hn8,hb8⟩;have hr8:=R7.out.later hb8;have R8:=Lib.hid hr8;have X8:=Lib.hid hx8;have C8:=Lib.hid hc8;have N8:=Lib.hid (fun b o s h=>Nat.lt_of_lt_of_le R7.out.lt (hn8 b o s h));have fz:=hr8.2.2.2;have q10:=hr8.2.2.1;have q0:=hr8.2.1 0 (by decide) (by decide);have q1:=hr8.2.1 1 (by decide) (by decide);have q2:=hr8.2.1 2 (by decide) (by decide);have q3:=hr8.2.1 3 (by decide) (by decide);have q4:=hr8.2.1 4 (by decide) (by decide);have q5:=hr8.2.1 5 (by decide) (by decide);have q6:=hr8.2.1 6 (by decide) (by decide);have q7:=hr8.2.1 7 (by decide) (by decide);have q8:=hr8.2.1 8 (by decide) (by decide);have q9:=hr8.2.1 9 (by decide) (by decide);have q11:=hr8.2.1 11 (by decide) (by decide);clear hr8 hx8 hc8 hn8 hb8 c12 c13 c14 c15 c16 c17 c18 c19 c20)
    | (go_at_call 144;refine (get9_any _ _ L w2.heap.size v6 _ _ w2 _ HAL.out (by unfold bodyPs;split;decide;split <;> decide) (okPl_body _) (Nat.le_refl _) PA6.out R6.out).mono ?_;rintro e w7 ⟨rfl,hr7⟩;rw [HV1.out] at hr7;have R7:=Lib.hid hr7;have HSM:=Lib.hid (readX_small HZB.out);have c12:=hr7.2.1 12 (by decide) (by decide);have c13:=hr7.2.1 13 (by decide) (by decide);have c14:=hr7.2.1 14 (by decide) (by decide);have c15:=hr7.2.1 15 (by decide) (by decide);have c16:=hr7.2.1 16 (by decide) (by decide);have c17:=hr7.2.1 17 (by decide) (by decide);have c18:=hr7.2.1 18 (by decide) (by decide);have c19:=hr7.2.1 19 (by decide) (by decide);have c20:=hr7.2.1 20 (by decide) (by decide);clear hr7)
    | (go_at_call 144;refine (get9_any _ _ L w2.heap.size v4 headPs9 (fun _=>0) w2 _ HAL.out (by decide) okPl_head (Nat.le_refl _) PA4.out R4.out).mono ?_;rintro e w5 ⟨rfl,hr5⟩;have R5:=Lib.hid hr5;have f5:=hr5.2.1 1 (by decide) (by decide);clear hr5)
    | (go_at_call 145;refine (head9_any w2.heap.size _).mono ?_;rintro e w4 ⟨v4,rfl,hp4,hb4⟩;have PA4:=Lib.hid (hp4.arg (by simp) (fun h=>absurd h (by decide)));have R4:=Lib.hid (HR0.out.later hb4);clear hp4 hb4)
    | (go_at_call 146;refine (body9_any w2.heap.size _ _ f5).mono ?_;rintro e w6 ⟨v6,rfl,hp6,hn6,hb6⟩;have PA6:=Lib.hid (hp6.arg R5.out.lt hn6);have R6:=Lib.hid (R5.out.later hb6);clear hp6 hn6 hb6 f5)
    | (refine wpList_store_mid rfl 68 (.tmp 2) (.tmp 21) rfl w.heap.size 0 (List.toArray [.int .i64 (readV L 0),.int .i64 (readV L 1),.int .i64 (readV L 2),.int .i64 (readV L 3),.int .i64 (readV L 4),.int .i64 (readV L 5),.int .i64 (readV L 6),.int .i64 (readV L 7),.int .i64 (readV L 8),.int .i64 (readV L 9),.slice xo m xc,.int .i64 (readV L 11)]) rfl rfl (there_set (there_kept (n:=12) HT2.out (show 0 < 12 by decide) R8.out.1) (Nat.ne_of_gt HLT.out)) (by kernel_rfl) (all_oneCell_toArray (by intro v hv;simp only [List.mem_cons,List.mem_nil_iff,or_false] at hv;rcases hv with rfl | rfl | rfl | rfl | rfl | rfl | rfl | rfl | rfl | rfl | rfl | rfl <;> rfl)) ?_;have RG:=World.rangeAt_setCells_same _ w.heap.size 0 [.int .i64 (readV L 0),.int .i64 (readV L 1),.int .i64 (readV L 2),.int .i64 (readV L 3),.int .i64 (readV L 4),.int .i64 (readV L 5),.int .i64 (readV L 6),.int .i64 (readV L 7),.int .i64 (readV L 8),.int .i64 (readV L 9),.slice xo m xc,.int .i64 (readV L 11)] (there_set (k:=10) (v:=.slice xo m xc) (there_kept (n:=12) HT2.out (show 0 < 12 by decide) R8.out.1) (Nat.ne_of_gt HLT.out));have BF:=Lib.hid (below_setCells (B:=w.heap.size) (g:=w.heap.size) (below_setCell9 (HBW2.out.trans (R8.out.1.mono HBW2.out.size)) HLT.out xo m xc) (Nat.le_refl _) [.int .i64 (readV L 0),.int .i64 (readV L 1),.int .i64 (readV L 2),.int .i64 (readV L 3),.int .i64 (readV L 4),.int .i64 (readV L 5),.int .i64 (readV L 6),.int .i64 (readV L 7),.int .i64 (readV L 8),.int .i64 (readV L 9),.slice xo m xc,.int .i64 (readV L 11)] 0);have XF:=Lib.hid (XIs.setCells (g:=w.heap.size) (fun b o s h=>Nat.ne_of_gt (Nat.lt_trans HLT.out (N8.out b o s h))) [.int .i64 (readV L 0),.int .i64 (readV L 1),.int .i64 (readV L 2),.int .i64 (readV L 3),.int .i64 (readV L 4),.int .i64 (readV L 5),.int .i64 (readV L 6),.int .i64 (readV L 7),.int .i64 (readV L 8),.int .i64 (readV L 9),.slice xo m xc,.int .i64 (readV L 11)] 0 _ (X8.out.setCell (g:=w2.heap.size) (k:=10) (v:=.slice xo m xc) (fun b o s h=>Nat.ne_of_gt (N8.out b o s h))));generalize (w8.setCell ⟨w2.heap.size,10,none⟩ (.slice xo m xc)).setCells w.heap.size 0 [.int .i64 (readV L 0),.int .i64 (readV L 1),.int .i64 (readV L 2),.int .i64 (readV L 3),.int .i64 (readV L 4),.int .i64 (readV L 5),.int .i64 (readV L 6),.int .i64 (readV L 7),.int .i64 (readV L 8),.int .i64 (readV L 9),.slice xo m xc,.int .i64 (readV L 11)]=W9 at *;have r0:=RG 0 _ rfl;have r1:=RG 1 _ rfl;have r2:=RG 2 _ rfl;have r3:=RG 3 _ rfl;have r4:=RG 4 _ rfl;have r5:=RG 5 _ rfl;have r6:=RG 6 _ rfl;have r7:=RG 7 _ rfl;have r8:=RG 8 _ rfl;have r9:=RG 9 _ rfl;have r10:=RG 10 _ rfl;have r11:=RG 11 _ rfl;clear RG))
  refine bodyPost_ret (v:=(readN L).val (.slice xo m xc)) ?_ rfl ⟨xo,m,xc,rfl,by rw [HX.out];exact XF.out,C8.out,fun b o s h=>Nat.le_of_lt (Nat.lt_trans HLT.out (N8.out b o s h)),BF.out⟩
  rw [results_one9 rfl,HN.out]
  go_simp
  try rfl
end Go.Proofs.YtcefmpnijjcekaaGreatDoor
namespace Go.Proofs.YtcefmpnijjcekaaGreatDoor
open Go.RowKit
theorem bytesEq9_any (ao bo:Option Addr) (al ac bl bc:Nat) (xs ys:List Int) (w:World) (hx:Bts w ao al xs) (hy:Bts w bo bl ys) :
    Calls Tryz.prog 88 #[.slice ao al ac,.slice bo bl bc] w fun e w'=>e=.returned (.bool (decide (xs=ys)))∧w=w':=by
  have h1:=str_bytes (cap:=ac) hx
  have h2:=str_bytes (cap:=bc) hy
  have HE:Hid (((str xs).toList == (str ys).toList)=decide (xs=ys)):=Lib.hid (str_eq hx.2.2.1 hy.2.2.1)
  clear hx hy
  generalize str xs=sx at *
  generalize str ys=sy at *
  go_enter Tryz.func88,Tryz.ntmps88
  go_wp2
  go_ret
  exact ⟨by rw [← HE.out];rfl,rfl⟩
def gotN (zs:List Int):PNode:=readN (pad64n zs)
def isNode (zs:List Int):Bool:=(gotN zs).sound&&decide (node32 (gotN zs)=zs)
def decN (zs:List Int):PNode:=if isNode zs=true then gotN zs else noNode
def decErr (zs:List Int):Int:=if isNode zs=true then 0 else 2
theorem node_ways (zs:List Int):((gotN zs).sound=true∧node32 (gotN zs)=zs∧decN zs=gotN zs∧decErr zs=0)∨((gotN zs).sound=true∧node32 (gotN zs)≠zs∧decN zs=noNode∧decErr zs=2)∨((gotN zs).sound=false∧decN zs=noNode∧decErr zs=2):=by
  unfold decN decErr isNode
  cases hs:(gotN zs).sound with
  | false=>right;right;exact ⟨rfl,rfl,rfl⟩
  | true=>
    by_cases he:node32 (gotN zs)=zs
    · left;rw [decide_eq_true he];exact ⟨rfl,he,rfl,rfl⟩
    · right;left;rw [decide_eq_false he];exact ⟨rfl,he,rfl,rfl⟩
theorem pad64n_bytes {zs:List Int} (hz:∀ z ∈ zs,0≤z∧z≤255):∀ z ∈ pad64n zs,0≤z∧z≤255:=by
  intro z h
  unfold pad64n at h
  rw [lay_eq _ _ _ (by show 0+_≤64;rw [List.length_take];omega)] at h
  simp only [List.take_zero,List.nil_append] at h
  rcases List.mem_append.1 h with h | h
  · exact hz z (List.mem_of_mem_take h)
  · have h':=List.mem_of_mem_drop h
    unfold zeros64n at h'
    rw [List.eq_of_mem_replicate h'];decide
set_option maxRecDepth 100000 in
set_option maxHeartbeats 6400000 in
theorem ndec_any (ao:Option Addr) (len cap:Nat) (zs:List Int) (w:World) (hA:Arg w ao len cap zs) :
    Calls Tryz.prog 48 #[.slice ao len cap] w fun e w'=>∃ xo m xc,e=.returned (.tuple #[(decN zs).val (.slice xo m xc),.int .i64 (decErr zs)])∧XIs w' xo m (decN zs).x∧(m≤xc∧xc≤9223372036854775807)∧Below w.heap.size w w':=by
  have HA:=Lib.hid hA
  have hB1:Below w.heap.size w (w.alloc (.cells #[.int .i64 0,.int .i64 0,.int .i64 0,.int .i64 0,.int .i64 0,.int .i64 0,.int .i64 0,.int .i64 0,.int .i64 0,.int .i64 0,.slice none 0 0,.int .i64 0] 68)):=(Below.refl _ _).alloc (Nat.le_refl _) _
  have HB1:=Lib.hid hB1
  have HTH:Hid (∀ W,Below (w.alloc (.cells #[.int .i64 0,.int .i64 0,.int .i64 0,.int .i64 0,.int .i64 0,.int .i64 0,.int .i64 0,.int .i64 0,.int .i64 0,.int .i64 0,.slice none 0 0,.int .i64 0] 68)).heap.size (w.alloc (.cells #[.int .i64 0,.int .i64 0,.int .i64 0,.int .i64 0,.int .i64 0,.int .i64 0,.int .i64 0,.int .i64 0,.int .i64 0,.int .i64 0,.slice none 0 0,.int .i64 0] 68)) W→W.there w.heap.size 0 12):=Lib.hid (fun W hW=>there_later hW rfl)
  have cR:=read9_any ao len cap zs (w.alloc (.cells #[.int .i64 0,.int .i64 0,.int .i64 0,.int .i64 0,.int .i64 0,.int .i64 0,.int .i64 0,.int .i64 0,.int .i64 0,.int .i64 0,.slice none 0 0,.int .i64 0] 68)) (hA.later hB1)
  have hsm:(gotN zs).small:=readN_small (pad64n_bytes hA.1.2.2.1)
  have cE:=fun (W:World) (xo:Option Addr) (m xc:Nat) (hX:XIs W xo m (gotN zs).x) (hc:m≤xc∧xc≤9223372036854775807)=>nenc_any (gotN zs) W hsm hX hc
  rw [show readN (pad64n zs)=gotN zs from rfl] at cR
  clear hA hB1 hsm
  rcases node_ways zs with ⟨hs,hb,hg,he⟩ | ⟨hs,hb,hg,he⟩ | ⟨hs,hg,he⟩
  · unfold nodeOut nodeErr at cE
    rw [hs] at cE
    rw [if_pos rfl,if_pos rfl] at cE
    generalize node32 (gotN zs)=O at *
    have HD:Hid (decide (O=zs)=true):=Lib.hid (decide_eq_true hb)
    have HG:=Lib.hid hg
    have HE:=Lib.hid he
    generalize decErr zs=E at *
    generalize decN zs=D at *
    clear hs hg he hb
    generalize gotN zs=G at *
    obtain ⟨k,f,l,z,d0,d1,d2,d3,s,t,x,c⟩:=G
    have HCE:=Lib.hid cE
    unfold PNode.val at HCE cR
    simp only at HCE cR
    clear cE
    go_enter Tryz.func48,Tryz.ntmps48
    go_wp2_with (first
      | (go_at_call 64;refine (HCE.out _ _ _ _ X4.out C3.out).mono ?_;rintro e w5 ⟨v5,rfl,hf5,hb5⟩;obtain ⟨a5,c5,rfl,hA5⟩:=fresh_form9 hf5;have A5:=Lib.hid hA5;clear hA5;have X5:=Lib.hid (X4.out.later hb5);have T5:=Lib.hid (HTH.out w5 (B3.out.trans ((K4.out.trans (hb5.mono K4.out.size)).mono B3.out.size)));have B5:=Lib.hid (B4.out.trans (hb5.mono B4.out.size));have u0:=cell_later hb5 r0;have u1:=cell_later hb5 r1;have u2:=cell_later hb5 r2;have u3:=cell_later hb5 r3;have u4:=cell_later hb5 r4;have u5:=cell_later hb5 r5;have u6:=cell_later hb5 r6;have u7:=cell_later hb5 r7;have u8:=cell_later hb5 r8;have u9:=cell_later hb5 r9;have u10:=cell_later hb5 r10;have u11:=cell_later hb5 r11;clear hf5 hb5 r0 r1 r2 r3 r4 r5 r6 r7 r8 r9 r10 r11)
      | (go_at_call 91;refine cR.mono ?_;rintro e w3 ⟨xo,m,xc,rfl,hx3,hc3,hn3,hb3⟩;have X3:=Lib.hid hx3;have C3:=Lib.hid hc3;have N3:=Lib.hid (fun b o s h=>Nat.lt_of_lt_of_le (by simp:w.heap.size < (w.alloc (.cells #[.int .i64 0,.int .i64 0,.int .i64 0,.int .i64 0,.int .i64 0,.int .i64 0,.int .i64 0,.int .i64 0,.int .i64 0,.int .i64 0,.slice none 0 0,.int .i64 0] 68)).heap.size) (hn3 b o s h));have B3:=Lib.hid hb3;clear hx3 hc3 hn3 hb3)
      | (go_at_call 88;refine (bytesEq9_any a5 ao _ c5 len cap O zs _ A5.out.1 (HA.out.later B5.out).1).mono ?_;rintro e w6 ⟨rfl,rfl⟩;rw [HD.out])
      | (refine wpList_store_mid rfl 68 (.tmp 4) (.tmp 8) rfl w3.heap.size 0 (List.toArray [.int .i64 k,.int .i64 f,.int .i64 l,.int .i64 z,.int .i64 d0,.int .i64 d1,.int .i64 d2,.int .i64 d3,.int .i64 s,.int .i64 t,.slice xo m xc,.int .i64 c]) rfl rfl (there_new w3 _ _ rfl) (by kernel_rfl) (all_oneCell_toArray (by intro v hv;simp only [List.mem_cons,List.mem_nil_iff,or_false] at hv;rcases hv with rfl | rfl | rfl | rfl | rfl | rfl | rfl | rfl | rfl | rfl | rfl | rfl <;> rfl)) ?_;have RG:=World.rangeAt_setCells_same _ w3.heap.size 0 [.int .i64 k,.int .i64 f,.int .i64 l,.int .i64 z,.int .i64 d0,.int .i64 d1,.int .i64 d2,.int .i64 d3,.int .i64 s,.int .i64 t,.slice xo m xc,.int .i64 c] (there_new w3 #[.int .i64 0,.int .i64 0,.int .i64 0,.int .i64 0,.int .i64 0,.int .i64 0,.int .i64 0,.int .i64 0,.int .i64 0,.int .i64 0,.slice none 0 0,.int .i64 0] 68 rfl);have K4:Hid (Below w3.heap.size w3 ((w3.alloc (.cells #[.int .i64 0,.int .i64 0,.int .i64 0,.int .i64 0,.int .i64 0,.int .i64 0,.int .i64 0,.int .i64 0,.int .i64 0,.int .i64 0,.slice none 0 0,.int .i64 0] 68)).setCells w3.heap.size 0 [.int .i64 k,.int .i64 f,.int .i64 l,.int .i64 z,.int .i64 d0,.int .i64 d1,.int .i64 d2,.int .i64 d3,.int .i64 s,.int .i64 t,.slice xo m xc,.int .i64 c])):=Lib.hid (below_setCells ((Below.refl _ _).alloc (Nat.le_refl _) _) (Nat.le_refl _) _ _);generalize (w3.alloc (.cells #[.int .i64 0,.int .i64 0,.int .i64 0,.int .i64 0,.int .i64 0,.int .i64 0,.int .i64 0,.int .i64 0,.int .i64 0,.int .i64 0,.slice none 0 0,.int .i64 0] 68)).setCells w3.heap.size 0 [.int .i64 k,.int .i64 f,.int .i64 l,.int .i64 z,.int .i64 d0,.int .i64 d1,.int .i64 d2,.int .i64 d3,.int .i64 s,.int .i64 t,.slice xo m xc,.int .i64 c]=w4 at *;have X4:=Lib.hid (X3.out.later K4.out);have B4:=Lib.hid ((HB1.out.trans (B3.out.mono HB1.out.size)).trans (K4.out.mono (HB1.out.trans (B3.out.mono HB1.out.size)).size));have r0:=RG 0 _ rfl;have r1:=RG 1 _ rfl;have r2:=RG 2 _ rfl;have r3:=RG 3 _ rfl;have r4:=RG 4 _ rfl;have r5:=RG 5 _ rfl;have r6:=RG 6 _ rfl;have r7:=RG 7 _ rfl;have r8:=RG 8 _ rfl;have r9:=RG 9 _ rfl;have r10:=RG 10 _ rfl;have r11:=RG 11 _ rfl;clear RG)
      | (refine wpList_store_mid rfl 68 (.tmp 2) (.tmp 23) rfl w.heap.size 0 (List.toArray [.int .i64 k,.int .i64 f,.int .i64 l,.int .i64 z,.int .i64 d0,.int .i64 d1,.int .i64 d2,.int .i64 d3,.int .i64 s,.int .i64 t,.slice xo m xc,.int .i64 c]) rfl rfl T5.out (by kernel_rfl) (all_oneCell_toArray (by intro v hv;simp only [List.mem_cons,List.mem_nil_iff,or_false] at hv;rcases hv with rfl | rfl | rfl | rfl | rfl | rfl | rfl | rfl | rfl | rfl | rfl | rfl <;> rfl)) ?_;have RG:=World.rangeAt_setCells_same w5 w.heap.size 0 [.int .i64 k,.int .i64 f,.int .i64 l,.int .i64 z,.int .i64 d0,.int .i64 d1,.int .i64 d2,.int .i64 d3,.int .i64 s,.int .i64 t,.slice xo m xc,.int .i64 c] T5.out;have BF:=Lib.hid (below_setCells (B:=w.heap.size) (g:=w.heap.size) B5.out (Nat.le_refl _) [.int .i64 k,.int .i64 f,.int .i64 l,.int .i64 z,.int .i64 d0,.int .i64 d1,.int .i64 d2,.int .i64 d3,.int .i64 s,.int .i64 t,.slice xo m xc,.int .i64 c] 0);have XF:=Lib.hid (XIs.setCells (g:=w.heap.size) (fun b o s h=>Nat.ne_of_gt (N3.out b o s h)) [.int .i64 k,.int .i64 f,.int .i64 l,.int .i64 z,.int .i64 d0,.int .i64 d1,.int .i64 d2,.int .i64 d3,.int .i64 s,.int .i64 t,.slice xo m xc,.int .i64 c] 0 _ X5.out);generalize w5.setCells w.heap.size 0 [.int .i64 k,.int .i64 f,.int .i64 l,.int .i64 z,.int .i64 d0,.int .i64 d1,.int .i64 d2,.int .i64 d3,.int .i64 s,.int .i64 t,.slice xo m xc,.int .i64 c]=W9 at *;have y0:=RG 0 _ rfl;have y1:=RG 1 _ rfl;have y2:=RG 2 _ rfl;have y3:=RG 3 _ rfl;have y4:=RG 4 _ rfl;have y5:=RG 5 _ rfl;have y6:=RG 6 _ rfl;have y7:=RG 7 _ rfl;have y8:=RG 8 _ rfl;have y9:=RG 9 _ rfl;have y10:=RG 10 _ rfl;have y11:=RG 11 _ rfl;clear RG))
    refine bodyPost_ret (v:=.tuple #[PNode.val D (.slice xo m xc),.int .i64 E]) ?_ rfl ⟨xo,m,xc,rfl,by rw [HG.out];exact XF.out,C3.out,BF.out⟩
    rw [HG.out,HE.out,results_cell_tmp rfl]
    unfold PNode.val
    go_simp
    try rfl
  · unfold nodeOut nodeErr at cE
    rw [hs] at cE
    rw [if_pos rfl,if_pos rfl] at cE
    generalize node32 (gotN zs)=O at *
    have HD:Hid (decide (O=zs)=false):=Lib.hid (decide_eq_false hb)
    have HG:=Lib.hid hg
    have HE:=Lib.hid he
    generalize decErr zs=E at *
    generalize decN zs=D at *
    clear hs hg he hb
    generalize gotN zs=G at *
    obtain ⟨k,f,l,z,d0,d1,d2,d3,s,t,x,c⟩:=G
    have HCE:=Lib.hid cE
    unfold PNode.val at HCE cR
    simp only at HCE cR
    clear cE
    go_enter Tryz.func48,Tryz.ntmps48
    go_wp2_with (first
      | (go_at_call 64;refine (HCE.out _ _ _ _ X4.out C3.out).mono ?_;rintro e w5 ⟨v5,rfl,hf5,hb5⟩;obtain ⟨a5,c5,rfl,hA5⟩:=fresh_form9 hf5;have A5:=Lib.hid hA5;clear hA5;have X5:=Lib.hid (X4.out.later hb5);have T5:=Lib.hid (HTH.out w5 (B3.out.trans ((K4.out.trans (hb5.mono K4.out.size)).mono B3.out.size)));have B5:=Lib.hid (B4.out.trans (hb5.mono B4.out.size));have u0:=cell_later hb5 r0;have u1:=cell_later hb5 r1;have u2:=cell_later hb5 r2;have u3:=cell_later hb5 r3;have u4:=cell_later hb5 r4;have u5:=cell_later hb5 r5;have u6:=cell_later hb5 r6;have u7:=cell_later hb5 r7;have u8:=cell_later hb5 r8;have u9:=cell_later hb5 r9;have u10:=cell_later hb5 r10;have u11:=cell_later hb5 r11;clear hf5 hb5 r0 r1 r2 r3 r4 r5 r6 r7 r8 r9 r10 r11)
      | (go_at_call 91;refine cR.mono ?_;rintro e w3 ⟨xo,m,xc,rfl,hx3,hc3,hn3,hb3⟩;have X3:=Lib.hid hx3;have C3:=Lib.hid hc3;have N3:=Lib.hid (fun b o s h=>Nat.lt_of_lt_of_le (by simp:w.heap.size < (w.alloc (.cells #[.int .i64 0,.int .i64 0,.int .i64 0,.int .i64 0,.int .i64 0,.int .i64 0,.int .i64 0,.int .i64 0,.int .i64 0,.int .i64 0,.slice none 0 0,.int .i64 0] 68)).heap.size) (hn3 b o s h));have B3:=Lib.hid hb3;clear hx3 hc3 hn3 hb3)
      | (go_at_call 88;refine (bytesEq9_any a5 ao _ c5 len cap O zs _ A5.out.1 (HA.out.later B5.out).1).mono ?_;rintro e w6 ⟨rfl,rfl⟩;rw [HD.out])
      | (refine wpList_store_mid rfl 68 (.tmp 4) (.tmp 8) rfl w3.heap.size 0 (List.toArray [.int .i64 k,.int .i64 f,.int .i64 l,.int .i64 z,.int .i64 d0,.int .i64 d1,.int .i64 d2,.int .i64 d3,.int .i64 s,.int .i64 t,.slice xo m xc,.int .i64 c]) rfl rfl (there_new w3 _ _ rfl) (by kernel_rfl) (all_oneCell_toArray (by intro v hv;simp only [List.mem_cons,List.mem_nil_iff,or_false] at hv;rcases hv with rfl | rfl | rfl | rfl | rfl | rfl | rfl | rfl | rfl | rfl | rfl | rfl <;> rfl)) ?_;have RG:=World.rangeAt_setCells_same _ w3.heap.size 0 [.int .i64 k,.int .i64 f,.int .i64 l,.int .i64 z,.int .i64 d0,.int .i64 d1,.int .i64 d2,.int .i64 d3,.int .i64 s,.int .i64 t,.slice xo m xc,.int .i64 c] (there_new w3 #[.int .i64 0,.int .i64 0,.int .i64 0,.int .i64 0,.int .i64 0,.int .i64 0,.int .i64 0,.int .i64 0,.int .i64 0,.int .i64 0,.slice none 0 0,.int .i64 0] 68 rfl);have K4:Hid (Below w3.heap.size w3 ((w3.alloc (.cells #[.int .i64 0,.int .i64 0,.int .i64 0,.int .i64 0,.int .i64 0,.int .i64 0,.int .i64 0,.int .i64 0,.int .i64 0,.int .i64 0,.slice none 0 0,.int .i64 0] 68)).setCells w3.heap.size 0 [.int .i64 k,.int .i64 f,.int .i64 l,.int .i64 z,.int .i64 d0,.int .i64 d1,.int .i64 d2,.int .i64 d3,.int .i64 s,.int .i64 t,.slice xo m xc,.int .i64 c])):=Lib.hid (below_setCells ((Below.refl _ _).alloc (Nat.le_refl _) _) (Nat.le_refl _) _ _);generalize (w3.alloc (.cells #[.int .i64 0,.int .i64 0,.int .i64 0,.int .i64 0,.int .i64 0,.int .i64 0,.int .i64 0,.int .i64 0,.int .i64 0,.int .i64 0,.slice none 0 0,.int .i64 0] 68)).setCells w3.heap.size 0 [.int .i64 k,.int .i64 f,.int .i64 l,.int .i64 z,.int .i64 d0,.int .i64 d1,.int .i64 d2,.int .i64 d3,.int .i64 s,.int .i64 t,.slice xo m xc,.int .i64 c]=w4 at *;have X4:=Lib.hid (X3.out.later K4.out);have B4:=Lib.hid ((HB1.out.trans (B3.out.mono HB1.out.size)).trans (K4.out.mono (HB1.out.trans (B3.out.mono HB1.out.size)).size));have r0:=RG 0 _ rfl;have r1:=RG 1 _ rfl;have r2:=RG 2 _ rfl;have r3:=RG 3 _ rfl;have r4:=RG 4 _ rfl;have r5:=RG 5 _ rfl;have r6:=RG 6 _ rfl;have r7:=RG 7 _ rfl;have r8:=RG 8 _ rfl;have r9:=RG 9 _ rfl;have r10:=RG 10 _ rfl;have r11:=RG 11 _ rfl;clear RG)
      | (refine wpList_store_mid rfl 68 (.tmp 2) (.tmp 22) rfl w.heap.size 0 (List.toArray [.int .i64 0,.int .i64 0,.int .i64 0,.int .i64 0,.int .i64 0,.int .i64 0,.int .i64 0,.int .i64 0,.int .i64 0,.int .i64 0,.slice none 0 0,.int .i64 0]) rfl rfl T5.out (by kernel_rfl) (all_oneCell_toArray (by intro v hv;simp only [List.mem_cons,List.mem_nil_iff,or_false] at hv;rcases hv with rfl | rfl | rfl | rfl | rfl | rfl | rfl | rfl | rfl | rfl | rfl | rfl <;> rfl)) ?_;have RG:=World.rangeAt_setCells_same w5 w.heap.size 0 [.int .i64 0,.int .i64 0,.int .i64 0,.int .i64 0,.int .i64 0,.int .i64 0,.int .i64 0,.int .i64 0,.int .i64 0,.int .i64 0,.slice none 0 0,.int .i64 0] T5.out;have BF:=Lib.hid (below_setCells (B:=w.heap.size) (g:=w.heap.size) B5.out (Nat.le_refl _) [.int .i64 0,.int .i64 0,.int .i64 0,.int .i64 0,.int .i64 0,.int .i64 0,.int .i64 0,.int .i64 0,.int .i64 0,.int .i64 0,.slice none 0 0,.int .i64 0] 0);have XF:=Lib.hid (XIs.setCells (g:=w.heap.size) (fun b o s h=>Nat.ne_of_gt (N3.out b o s h)) [.int .i64 0,.int .i64 0,.int .i64 0,.int .i64 0,.int .i64 0,.int .i64 0,.int .i64 0,.int .i64 0,.int .i64 0,.int .i64 0,.slice none 0 0,.int .i64 0] 0 _ X5.out);generalize w5.setCells w.heap.size 0 [.int .i64 0,.int .i64 0,.int .i64 0,.int .i64 0,.int .i64 0,.int .i64 0,.int .i64 0,.int .i64 0,.int .i64 0,.int .i64 0,.slice none 0 0,.int .i64 0]=W9 at *;have y0:=RG 0 _ rfl;have y1:=RG 1 _ rfl;have y2:=RG 2 _ rfl;have y3:=RG 3 _ rfl;have y4:=RG 4 _ rfl;have y5:=RG 5 _ rfl;have y6:=RG 6 _ rfl;have y7:=RG 7 _ rfl;have y8:=RG 8 _ rfl;have y9:=RG 9 _ rfl;have y10:=RG 10 _ rfl;have y11:=RG 11 _ rfl;clear RG))
    refine bodyPost_ret (v:=.tuple #[PNode.val D (.slice none 0 0),.int .i64 E]) ?_ rfl ⟨none,0,0,rfl,by rw [HG.out];exact XIs.nil _,by decide,BF.out⟩
    rw [HG.out,HE.out,results_cell_tmp rfl]
    unfold PNode.val noNode
    go_simp
    try rfl
  · unfold nodeOut nodeErr at cE
    rw [hs] at cE
    rw [if_neg (by decide),if_neg (by decide)] at cE
    have HG:=Lib.hid hg
    have HE:=Lib.hid he
    generalize decErr zs=E at *
    generalize decN zs=D at *
    clear hs hg he
    generalize gotN zs=G at *
    obtain ⟨k,f,l,z,d0,d1,d2,d3,s,t,x,c⟩:=G
    have HCE:=Lib.hid cE
    unfold PNode.val at HCE cR
    simp only at HCE cR
    clear cE
    go_enter Tryz.func48,Tryz.ntmps48
    go_wp2_with (first
      | (go_at_call 64;refine (HCE.out _ _ _ _ X4.out C3.out).mono ?_;rintro e w5 ⟨v5,rfl,hf5,hb5⟩;  have X5:=Lib.hid (X4.out.later hb5);have T5:=Lib.hid (HTH.out w5 (B3.out.trans ((K4.out.trans (hb5.mono K4.out.size)).mono B3.out.size)));have B5:=Lib.hid (B4.out.trans (hb5.mono B4.out.size));have u0:=cell_later hb5 r0;have u1:=cell_later hb5 r1;have u2:=cell_later hb5 r2;have u3:=cell_later hb5 r3;have u4:=cell_later hb5 r4;have u5:=cell_later hb5 r5;have u6:=cell_later hb5 r6;have u7:=cell_later hb5 r7;have u8:=cell_later hb5 r8;have u9:=cell_later hb5 r9;have u10:=cell_later hb5 r10;have u11:=cell_later hb5 r11;clear hf5 hb5 r0 r1 r2 r3 r4 r5 r6 r7 r8 r9 r10 r11)
      | (go_at_call 91;refine cR.mono ?_;rintro e w3 ⟨xo,m,xc,rfl,hx3,hc3,hn3,hb3⟩;have X3:=Lib.hid hx3;have C3:=Lib.hid hc3;have N3:=Lib.hid (fun b o s h=>Nat.lt_of_lt_of_le (by simp:w.heap.size < (w.alloc (.cells #[.int .i64 0,.int .i64 0,.int .i64 0,.int .i64 0,.int .i64 0,.int .i64 0,.int .i64 0,.int .i64 0,.int .i64 0,.int .i64 0,.slice none 0 0,.int .i64 0] 68)).heap.size) (hn3 b o s h));have B3:=Lib.hid hb3;clear hx3 hc3 hn3 hb3)
      | (refine wpList_store_mid rfl 68 (.tmp 4) (.tmp 8) rfl w3.heap.size 0 (List.toArray [.int .i64 k,.int .i64 f,.int .i64 l,.int .i64 z,.int .i64 d0,.int .i64 d1,.int .i64 d2,.int .i64 d3,.int .i64 s,.int .i64 t,.slice xo m xc,.int .i64 c]) rfl rfl (there_new w3 _ _ rfl) (by kernel_rfl) (all_oneCell_toArray (by intro v hv;simp only [List.mem_cons,List.mem_nil_iff,or_false] at hv;rcases hv with rfl | rfl | rfl | rfl | rfl | rfl | rfl | rfl | rfl | rfl | rfl | rfl <;> rfl)) ?_;have RG:=World.rangeAt_setCells_same _ w3.heap.size 0 [.int .i64 k,.int .i64 f,.int .i64 l,.int .i64 z,.int .i64 d0,.int .i64 d1,.int .i64 d2,.int .i64 d3,.int .i64 s,.int .i64 t,.slice xo m xc,.int .i64 c] (there_new w3 #[.int .i64 0,.int .i64 0,.int .i64 0,.int .i64 0,.int .i64 0,.int .i64 0,.int .i64 0,.int .i64 0,.int .i64 0,.int .i64 0,.slice none 0 0,.int .i64 0] 68 rfl);have K4:Hid (Below w3.heap.size w3 ((w3.alloc (.cells #[.int .i64 0,.int .i64 0,.int .i64 0,.int .i64 0,.int .i64 0,.int .i64 0,.int .i64 0,.int .i64 0,.int .i64 0,.int .i64 0,.slice none 0 0,.int .i64 0] 68)).setCells w3.heap.size 0 [.int .i64 k,.int .i64 f,.int .i64 l,.int .i64 z,.int .i64 d0,.int .i64 d1,.int .i64 d2,.int .i64 d3,.int .i64 s,.int .i64 t,.slice xo m xc,.int .i64 c])):=Lib.hid (below_setCells ((Below.refl _ _).alloc (Nat.le_refl _) _) (Nat.le_refl _) _ _);generalize (w3.alloc (.cells #[.int .i64 0,.int .i64 0,.int .i64 0,.int .i64 0,.int .i64 0,.int .i64 0,.int .i64 0,.int .i64 0,.int .i64 0,.int .i64 0,.slice none 0 0,.int .i64 0] 68)).setCells w3.heap.size 0 [.int .i64 k,.int .i64 f,.int .i64 l,.int .i64 z,.int .i64 d0,.int .i64 d1,.int .i64 d2,.int .i64 d3,.int .i64 s,.int .i64 t,.slice xo m xc,.int .i64 c]=w4 at *;have X4:=Lib.hid (X3.out.later K4.out);have B4:=Lib.hid ((HB1.out.trans (B3.out.mono HB1.out.size)).trans (K4.out.mono (HB1.out.trans (B3.out.mono HB1.out.size)).size));have r0:=RG 0 _ rfl;have r1:=RG 1 _ rfl;have r2:=RG 2 _ rfl;have r3:=RG 3 _ rfl;have r4:=RG 4 _ rfl;have r5:=RG 5 _ rfl;have r6:=RG 6 _ rfl;have r7:=RG 7 _ rfl;have r8:=RG 8 _ rfl;have r9:=RG 9 _ rfl;have r10:=RG 10 _ rfl;have r11:=RG 11 _ rfl;clear RG)
      | (refine wpList_store_mid rfl 68 (.tmp 2) (.tmp 22) rfl w.heap.size 0 (List.toArray [.int .i64 0,.int .i64 0,.int .i64 0,.int .i64 0,.int .i64 0,.int .i64 0,.int .i64 0,.int .i64 0,.int .i64 0,.int .i64 0,.slice none 0 0,.int .i64 0]) rfl rfl T5.out (by kernel_rfl) (all_oneCell_toArray (by intro v hv;simp only [List.mem_cons,List.mem_nil_iff,or_false] at hv;rcases hv with rfl | rfl | rfl | rfl | rfl | rfl | rfl | rfl | rfl | rfl | rfl | rfl <;> rfl)) ?_;have RG:=World.rangeAt_setCells_same w5 w.heap.size 0 [.int .i64 0,.int .i64 0,.int .i64 0,.int .i64 0,.int .i64 0,.int .i64 0,.int .i64 0,.int .i64 0,.int .i64 0,.int .i64 0,.slice none 0 0,.int .i64 0] T5.out;have BF:=Lib.hid (below_setCells (B:=w.heap.size) (g:=w.heap.size) B5.out (Nat.le_refl _) [.int .i64 0,.int .i64 0,.int .i64 0,.int .i64 0,.int .i64 0,.int .i64 0,.int .i64 0,.int .i64 0,.int .i64 0,.int .i64 0,.slice none 0 0,.int .i64 0] 0);have XF:=Lib.hid (XIs.setCells (g:=w.heap.size) (fun b o s h=>Nat.ne_of_gt (N3.out b o s h)) [.int .i64 0,.int .i64 0,.int .i64 0,.int .i64 0,.int .i64 0,.int .i64 0,.int .i64 0,.int .i64 0,.int .i64 0,.int .i64 0,.slice none 0 0,.int .i64 0] 0 _ X5.out);generalize w5.setCells w.heap.size 0 [.int .i64 0,.int .i64 0,.int .i64 0,.int .i64 0,.int .i64 0,.int .i64 0,.int .i64 0,.int .i64 0,.int .i64 0,.int .i64 0,.slice none 0 0,.int .i64 0]=W9 at *;have y0:=RG 0 _ rfl;have y1:=RG 1 _ rfl;have y2:=RG 2 _ rfl;have y3:=RG 3 _ rfl;have y4:=RG 4 _ rfl;have y5:=RG 5 _ rfl;have y6:=RG 6 _ rfl;have y7:=RG 7 _ rfl;have y8:=RG 8 _ rfl;have y9:=RG 9 _ rfl;have y10:=RG 10 _ rfl;have y11:=RG 11 _ rfl;clear RG))
    refine bodyPost_ret (v:=.tuple #[PNode.val D (.slice none 0 0),.int .i64 E]) ?_ rfl ⟨none,0,0,rfl,by rw [HG.out];exact XIs.nil _,by decide,BF.out⟩
    rw [HG.out,HE.out,results_cell_tmp rfl]
    unfold PNode.val noNode
    go_simp
    try rfl
end Go.Proofs.YtcefmpnijjcekaaGreatDoor
namespace Go.Proofs.YtcefmpnijjcekaaGreatDoor
open Go.RowKit
/-! ### Plain words -/
def supAt (B:List (List Int)):PSup:=getSup (B.getD 0 [])
def flagsAt (B:List (List Int)):List Int:=(B.getD 2 []).take 60
def halfAt (B:List (List Int)) (n:Nat):List Int:=((B.getD (3+n / 2) []).drop (n%2 * 32)).take 32
def withFlags (B:List (List Int)) (f:List Int):List (List Int):=B.set 2 (sealOf sumS f)
def withSuper (B:List (List Int)) (s:PSup):List (List Int):=B.set 0 (supBlock s)
def withNode (B:List (List Int)) (n:Nat) (x:PNode):List (List Int):=B.set (3+n / 2) (lay (B.getD (3+n / 2) []) (n%2 * 32) (node32 x))
/-! ### Memory -/
def zeroB:Array Value:=(bys (List.replicate 64 0)).toArray
set_option maxRecDepth 100000 in
theorem alloc_blk (w:World):(Instr.alloc 84 true (.tuple #[])).run Tryz.prog w=.ok (.pointer (some ⟨w.heap.size,0,none⟩)) (w.alloc (.cells zeroB 84)):=by
  rfl
section
variable {ops:Array Oper} {rest:List Oper} {o:Oper} {a:Act} {w:World} {Q:Exit→Act→World→Prop}
theorem wp_new_blk (hg:o.guard=none) (ho:o.op=.alloc 84) (dst:Option Tmp) (hd:o.dst=dst)
    (h:∀ n1 w1,n1=w.heap.size→w1=w.alloc (.cells zeroB 84)→wpList Tryz.prog ops Q rest (a.put dst (.pointer (some ⟨n1,0,none⟩))) w1):wpList Tryz.prog ops Q (o::rest) a w:=by
  subst hd
  refine wpList_plain hg fun K hK=>?_
  unfold Oper.wp execOp
  simp only [ho,Sem.run_bind,alloc_blk,Sem.run_pure,Result.andThen_ok]
  exact hK _ _ (h _ _ rfl rfl)
end
theorem new_own {w w1:World} {n1:Nat} (hn:n1=w.heap.size) (hw:w1=w.alloc (.cells zeroB 84)):Own w.heap.size w n1 (List.replicate 64 0) w1:=by
  subst hn hw
  refine ⟨by simp,fun j hj=>?_,fun j=>by rw [World.frozen?_alloc_mark];simp,Nat.le_refl _,(Below.refl _ _).alloc (Nat.le_refl _) _⟩
  rw [List.length_replicate] at hj
  rw [World.cell?_alloc_new]
  unfold zeroB
  rw [List.getElem?_toArray,bys_at (by rw [List.length_replicate];exact hj)]
theorem seal_laid {f:List Int} (hf:f.length=60):sealOut sumS (lay (List.replicate 64 0) 0 f)=sealOf sumS f:=by
  have hl:lay (List.replicate 64 0) 0 f=f ++ List.replicate 4 0:=by
    rw [lay_eq _ _ _ (by rw [List.length_replicate];omega),hf]
    simp
  unfold sealOut
  rw [hl,if_pos (by simp [hf])]
  unfold sealOf
  simp [hf,List.take_of_length_le (show f.length≤60 by omega)]
theorem fresh_slice {w:World} {base:Nat} {v:Value} {l:List Int} (h:Fresh w base v l) (h0:l≠[]):∃ g off cap,v=.slice (some ⟨g,off,none⟩) l.length cap∧Arg w (some ⟨g,off,none⟩) l.length cap l∧base≤g:=by
  obtain ⟨ao,cap,hv,hA,hf⟩:=h
  rcases hf with h1 | ⟨g,off,rfl,hg,_⟩
  · exact absurd h1 h0
  · exact ⟨g,off,cap,hv,hA,hg⟩
theorem sealAny_length (sum:List Int→Int) (zs:List Int):(sealOf sum zs).length=64:=by
  unfold sealOf
  simp only [List.length_append,List.length_take,List.length_replicate,leB_length]
  omega
set_option maxRecDepth 100000 in
set_option maxHeartbeats 1600000 in
theorem setFlags_any {w:World} {p q g n cap c2:Nat} {L:List (List Int)} {ao:Option Addr} {f:List Int} (hp:w.cell? ⟨p,q,none⟩=some (.slice (some ⟨g,0,none⟩) n cap)) (hR:Rw w g L) (hn:L.length=n) (hi:2 < n) (hA:Arg w ao 60 c2 f) :
    Calls Tryz.prog 33 #[.pointer (some ⟨p,q,none⟩),.slice ao 60 c2] w fun e w'=>e=.returned (.tuple #[])∧Rw w' g (withFlags L f)∧Grew (fun k=>k=g) (fun k=>k=g) w w':=by
  have HR:=Lib.hid hR
  have HN:=Lib.hid hn
  have HA:=Lib.hid hA
  have HP:=Lib.hid hp
  have hg:=hR.lt (by omega)
  have hp0:=World.block_lt_of_cell? _ _ hp
  have HS:=Lib.hid (seal_laid hA.1.1)
  clear hA hR hn hp
  go_enter Tryz.func33,Tryz.ntmps33
  go_wp2_with (first
    | (refine wp_new_blk rfl rfl (some 4) rfl ?_;intro n1 w1 hn1 hw1;have HO:=Lib.hid (new_own hn1 hw1);have HA1:=Lib.hid (HA.out.later HO.out.2.2.2.2);clear hn1 hw1)
    | (refine wp_copy rfl (.tmp 5) (.tmp 6) 44 44 rfl _ _ rfl rfl _ (own_copy_bytes HO.out (by simp) ao 60 c2 f HA1.out.1 (by decide) _) ?_;rintro v2 w2 ⟨rfl,hO2⟩;have HO2:=Lib.hid hO2;clear hO2)
    | (go_at_call 77
       have hA2:Arg w2 (some ⟨n1,0,none⟩) 64 64 (lay (List.replicate 64 0) 0 f):=by
         have h:=HO2.out.bts (by rw [lay_length,List.length_replicate];decide)
         rw [lay_length,List.length_replicate] at h
         exact ⟨h,by simp,by decide,by decide⟩
       have cS:=fSeal_any _ _ 64 _ _ hA2
       rw [show sealErr 64=0 from rfl,HS.out] at cS
       refine cS.mono ?_
       rintro e w3 ⟨v3,rfl,hF3,hb3⟩
       obtain ⟨g3,o3,c3,rfl,hA3,hg3⟩:=fresh_slice hF3 (fun h=>by have:=sealAny_length sumS f;rw [h] at this;cases this)
       rw [sealAny_length] at hA3 ⊢
       have HA3:=Lib.hid hA3
       have HB3:=Lib.hid (HO2.out.2.2.2.2.trans (hb3.mono HO2.out.2.2.2.2.size))
       clear cS hA2 hF3 hb3 hA3 hg3)
    | (go_at_call 57;refine (mustB_any _ _).mono ?_;rintro e w4 ⟨rfl,rfl⟩)
    | (go_at_call 56
       refine (put_any (i:=2) (by rw [HB3.out.cell (p:=⟨p,q,none⟩) hp0];exact HP.out) (HR.out.kept (HB3.out.block g hg)) HN.out hi HA3.out).mono ?_
       rintro e w5 ⟨rfl,hR5,hG5⟩
       have HF:=Lib.hid (And.intro hR5 ((Grew.of_below HB3.out).trans hG5))
       clear hR5 hG5))
  go_end0
  exact ⟨rfl,HF.out.1,HF.out.2⟩
end Go.Proofs.YtcefmpnijjcekaaGreatDoor
namespace Go.Proofs.YtcefmpnijjcekaaGreatDoor
open Go.RowKit
theorem results_c1 {fn:Func} {p:Tmp} {ty:TypeId} (h:fn.results=#[.cell p ty]) (tmps:Array Value) (P:Program) (w:World) :
    (results fn tmps).run P w=((asAddr (tmps.getD p undef)).run P w).andThen fun a w₁=>(loadVar ty a).run P w₁:=by
  simp only [results,h]
  simp [Sem.run_bind,Result.andThen]
theorem results_p1 {fn:Func} {p:Tmp} {ty:TypeId} {a:Addr} (h:fn.results=#[.cell p ty]) (tmps:Array Value) (ha:tmps.getD p undef=.pointer (some a)) (P:Program) (w:World) :
    (results fn tmps).run P w=(loadVar ty a).run P w:=by
  rw [results_c1 h,ha]
  rfl
set_option maxHeartbeats 800000 in
theorem mustS_any (s:PSup) (w:World):Calls Tryz.prog 85 #[s.val,.int .i64 0] w fun e w'=>e=.returned s.val∧Below w.heap.size w w':=by
  obtain ⟨a,b,c,d,e⟩:=s
  unfold PSup.val
  go_enter Tryz.func85,Tryz.ntmps85
  go_wp2_with fail
  refine bodyPost_ret (v:=.agg #[.int .i64 a,.int .i64 b,.int .i64 c,.int .i64 d,.int .i64 e]) ?_ rfl ⟨rfl,?_⟩
  · rw [results_c1 rfl]
    go_simp
    try rfl
  · exact ((Below.refl _ _).alloc (Nat.le_refl _) _).alloc (by simp) _
set_option maxHeartbeats 1600000 in
theorem mustN_any (n:PNode) (xo:Option Addr) (m xc:Nat) (w:World):Calls Tryz.prog 114 #[n.val (.slice xo m xc),.int .i64 0] w fun e w'=>e=.returned (n.val (.slice xo m xc))∧Below w.heap.size w w':=by
  obtain ⟨k,f,l,z,d0,d1,d2,d3,s,t,x,c⟩:=n
  unfold PNode.val
  go_enter Tryz.func114,Tryz.ntmps114
  go_wp2_with fail
  refine bodyPost_ret (v:=.agg #[.int .i64 k,.int .i64 f,.int .i64 l,.int .i64 z,.int .i64 d0,.int .i64 d1,.int .i64 d2,.int .i64 d3,.int .i64 s,.int .i64 t,.slice xo m xc,.int .i64 c]) ?_ rfl ⟨rfl,?_⟩
  · rw [results_c1 rfl]
    go_simp
    try rfl
  · exact ((Below.refl _ _).alloc (Nat.le_refl _) _).alloc (by simp) _
theorem one_sup (a b c d e:Int):(#[.int .i64 a,.int .i64 b,.int .i64 c,.int .i64 d,.int .i64 e]:Array Value).all (·.oneCell')=true:=by simp [Value.oneCell']
theorem one_node (k f l z d0 d1 d2 d3 s t c:Int) (xo:Option Addr) (m xc:Nat):(#[.int .i64 k,.int .i64 f,.int .i64 l,.int .i64 z,.int .i64 d0,.int .i64 d1,.int .i64 d2,.int .i64 d3,.int .i64 s,.int .i64 t,.slice xo m xc,.int .i64 c]:Array Value).all (·.oneCell')=true:=by simp [Value.oneCell']
theorem there_newC {w:World} {cs:Array Value} {T:TypeId} {w1:World} {n:Nat} (hb:Below (w.alloc (.cells cs T)).heap.size (w.alloc (.cells cs T)) w1) (hn:cs.size=n):w1.there w.heap.size 0 n:=fun j hj=>by
  subst hn
  have hl:w.heap.size < (w.alloc (.cells cs T)).heap.size:=by simp
  refine ⟨?_,?_⟩
  · rw [hb.cell (p:=⟨w.heap.size,0+j,none⟩) hl,Nat.zero_add,World.cell?_alloc_new]
    simp [hj]
  · rw [hb.frozen (p:=⟨w.heap.size,0+j,none⟩) hl,World.frozen?_alloc_mark]
    simp
theorem load_sup {W:World} {b:Nat} {s:PSup} (h:W.rangeAt b 0 [.int .i64 s.a,.int .i64 s.b,.int .i64 s.c,.int .i64 s.d,.int .i64 s.e]):(loadVar 36 ⟨b,0,none⟩).run Tryz.prog W=.ok s.val W:=
  run_loadVar_mid W b 0 36 [.int .i64 s.a,.int .i64 s.b,.int .i64 s.c,.int .i64 s.d,.int .i64 s.e] _ h Tryz.underlying36 rfl (by kernel_rfl)
theorem load_node {W:World} {b:Nat} {n:PNode} {xo:Option Addr} {m xc:Nat} (h:W.rangeAt b 0 [.int .i64 n.k,.int .i64 n.f,.int .i64 n.l,.int .i64 n.z,.int .i64 n.d0,.int .i64 n.d1,.int .i64 n.d2,.int .i64 n.d3,.int .i64 n.s,.int .i64 n.t,.slice xo m xc,.int .i64 n.c]):(loadVar 68 ⟨b,0,none⟩).run Tryz.prog W=.ok (n.val (.slice xo m xc)) W:=
  run_loadVar_mid W b 0 68 [.int .i64 n.k,.int .i64 n.f,.int .i64 n.l,.int .i64 n.z,.int .i64 n.d0,.int .i64 n.d1,.int .i64 n.d2,.int .i64 n.d3,.int .i64 n.s,.int .i64 n.t,.slice xo m xc,.int .i64 n.c] _ h Tryz.underlying68 rfl (by kernel_rfl)
theorem below_new {w:World} {cs:Array Value} {T:TypeId} {w1:World} (hb:Below (w.alloc (.cells cs T)).heap.size (w.alloc (.cells cs T)) w1):Below w.heap.size w w1:=
  ((Below.refl _ _).alloc (Nat.le_refl _) _).trans (hb.mono (by simp))
theorem isSup_err {zs:List Int} (h:isSup zs=true):getSupErr zs=0:=by unfold getSupErr;rw [if_pos h]
set_option maxRecDepth 100000 in
set_option maxHeartbeats 1600000 in
theorem super_any {w:World} {p q g n cap:Nat} {L:List (List Int)} (hp:w.cell? ⟨p,q,none⟩=some (.slice (some ⟨g,0,none⟩) n cap)) (hR:Rw w g L) (hn:L.length=n) (hi:0 < n) (hS:isSup (L.getD 0 [])=true) :
    Calls Tryz.prog 42 #[.pointer (some ⟨p,q,none⟩)] w fun e w'=>e=.returned (supAt L).val∧Below w.heap.size w w':=by
  have hA:=hR.whole (i:=0) (cap:=64) (by omega) (by decide)
  rw [Nat.zero_mul] at hA
  have hp0:=World.block_lt_of_cell? _ _ hp
  obtain ⟨a,b,c,d,e,hX⟩:∃ a b c d e,getSup (L.getD 0 [])=⟨a,b,c,d,e⟩:=⟨_,_,_,_,_,rfl⟩
  have hX2:supAt L=⟨a,b,c,d,e⟩:=hX
  have HC:Hid (∀ W,Below w.heap.size w W→Calls Tryz.prog 45 #[.slice (some ⟨g,0,none⟩) 64 64] W fun e' w'=>e'=.returned (.tuple #[.agg #[.int .i64 a,.int .i64 b,.int .i64 c,.int .i64 d,.int .i64 e],.int .i64 0])∧Below W.heap.size W w'):=Lib.hid (fun W hW=>by
    have h:=sdec_any _ _ _ _ _ (hA.later hW)
    rw [isSup_err hS,hX] at h
    exact h)
  have HX:=Lib.hid hX2
  clear hA hR hn hS hX hX2
  go_enter Tryz.func42,Tryz.ntmps42
  go_wp2_with (first
    | (go_at_call 45;refine (HC.out _ ((Below.refl _ _).alloc (Nat.le_refl _) _)).mono ?_;rintro e' w3 ⟨rfl,hb3⟩;have HB3:=Lib.hid hb3;clear hb3)
    | (go_at_call 85;refine (mustS_any ⟨a,b,c,d,e⟩ _).mono ?_;rintro e' w4 ⟨rfl,hb4⟩;have HB4:=Lib.hid (HB3.out.trans (hb4.mono HB3.out.size));clear hb4;unfold PSup.val)
    | (refine wpList_store_mid rfl 36 (.tmp 2) (.tmp 12) rfl w.heap.size 0 #[.int .i64 a,.int .i64 b,.int .i64 c,.int .i64 d,.int .i64 e] rfl rfl (there_newC HB4.out rfl) (by kernel_rfl) (one_sup _ _ _ _ _) ?_))
  refine bodyPost_ret (v:=(supAt L).val) ?_ rfl ⟨rfl,below_cells _ (Nat.le_refl _) _ _ _ (below_new HB4.out)⟩
  rw [results_p1 rfl _ rfl,HX.out]
  exact load_sup (s:=⟨a,b,c,d,e⟩) (World.rangeAt_setCells_same _ _ _ _ (there_newC HB4.out rfl))
set_option maxHeartbeats 800000 in
theorem flags_any {w:World} {p q g n cap:Nat} (hp:w.cell? ⟨p,q,none⟩=some (.slice (some ⟨g,0,none⟩) n cap)) (hi:2 < n) :
    Calls Tryz.prog 31 #[.pointer (some ⟨p,q,none⟩)] w fun e w'=>e=.returned (.slice (some ⟨g,128,none⟩) 60 64)∧w=w':=by
  have h2:((2:Nat):Int) < (n:Int):=by omega
  go_enter Tryz.func31,Tryz.ntmps31
  go_wp2_with fail
  go_ret
  exact ⟨rfl,rfl⟩
set_option maxHeartbeats 800000 in
theorem half_any {w:World} {p q g n cap:Nat} (k:Nat) (hp:w.cell? ⟨p,q,none⟩=some (.slice (some ⟨g,0,none⟩) n cap)) (hi:18 < n) (hk:k < 32) :
    Calls Tryz.prog 49 #[.pointer (some ⟨p,q,none⟩),.int .i64 k] w fun e w'=>e=.returned (.slice (some ⟨g,(3+k / 2) * 64+k%2 * 32,none⟩) 32 (64 - k%2 * 32))∧w=w':=by
  obtain ⟨r,hr⟩:∃ r:Nat,k%2=r:=⟨_,rfl⟩
  obtain ⟨a,ha⟩:∃ a:Nat,k / 2=a:=⟨_,rfl⟩
  obtain ⟨b,hb⟩:∃ b:Nat,3+a=b:=⟨_,rfl⟩
  obtain ⟨d,hd⟩:∃ d:Nat,r * 32=d:=⟨_,rfl⟩
  obtain ⟨e,he⟩:∃ e:Nat,d+32=e:=⟨_,rfl⟩
  rw [hr,ha,hb,hd]
  have e1:(k:Int)%2=(r:Int):=by omega
  have e2:(k:Int) / 2=(a:Int):=by omega
  have e3:(3:Int)+(a:Int)=(b:Int):=by omega
  have e4:(r:Int) * 32=(d:Int):=by omega
  have e5:(d:Int)+32=(e:Int):=by omega
  have l1:(0:Int)≤(k:Int):=by omega
  have l2:(k:Int) < 32:=by omega
  have l3:(r:Int)≤1:=by omega
  have l4:(a:Int)≤15:=by omega
  have l5:(b:Int) < (n:Int):=by omega
  have l6:d≤e:=by omega
  have l7:(e:Int)≤64:=by omega
  have l8:b < n:=by omega
  have l9:e≤64:=by omega
  have HX:Hid (e - d=32):=Lib.hid (by omega)
  clear hr ha hb hd he hk hi
  go_enter Tryz.func49,Tryz.ntmps49
  go_wp2_with fail
  go_ret
  exact ⟨by rw [HX.out];rfl,rfl⟩
theorem XIs.apart {w w':World} {xo:Option Addr} {m g:Nat} {xs:List PX} (h:XIs w xo m xs) (hk:∀ k,k≠g→w'.heap[k]?=w.heap[k]?) (hg:∀ o f c v,w.cell? ⟨g,o,none⟩=some v→¬ CX v f c):XIs w' xo m xs:=by
  obtain ⟨h1,h2,h3⟩:=h
  refine ⟨h1,h2,?_⟩
  rcases h3 with h3 | ⟨b,off,rfl,hc⟩
  · exact Or.inl h3
  · by_cases h0:m=0
    · exact Or.inl h0
    · have hb:b≠g:=fun e=>by
        obtain ⟨x,hx⟩:∃ x,xs[0]?=some x:=⟨_,List.getElem?_eq_getElem (by omega)⟩
        obtain ⟨_,v,hv,hC⟩:=hc 0 x hx
        exact hg _ _ _ v (by rw [← e];exact hv) hC
      refine Or.inr ⟨b,off,rfl,fun i x hx=>?_⟩
      obtain ⟨c1,v,c2,c3⟩:=hc i x hx
      exact ⟨by rw [cell_of_heap (p:=⟨b,off+i * 2,none⟩) (hk b hb)];exact c1,v,by rw [cell_of_heap (p:=⟨b,off+i * 2+1,none⟩) (hk b hb)];exact c2,c3⟩
def nodeZ:Array Value:=#[.int .i64 0,.int .i64 0,.int .i64 0,.int .i64 0,.int .i64 0,.int .i64 0,.int .i64 0,.int .i64 0,.int .i64 0,.int .i64 0,.slice none 0 0,.int .i64 0]
theorem nodeZ_no (o:Nat) (f c:Int) (v:Value) (h:nodeZ[o]?=some v):¬ CX v f c:=by
  unfold nodeZ at h
  match o,h with
  | 0,h | 1,h | 2,h | 3,h | 4,h | 5,h | 6,h | 7,h | 8,h | 9,h | 10,h | 11,h=>cases Option.some.inj h;intro hC;simp [CX] at hC
  | n+12,h=>cases h
theorem heap_setCells (g:Nat):∀ (vs:List Value) (o:Nat) (w:World) (k:Nat),k≠g→(w.setCells g o vs).heap[k]?=w.heap[k]?
  | [],_,_,_,_=>rfl
  | v::r,o,w,k,h=>by rw [World.setCells,heap_setCells g r (o+1) _ k h,Below.heap_setCell _ _ _ _ h]
theorem isNode_err {zs:List Int} (h:isNode zs=true):decErr zs=0:=by unfold decErr;rw [if_pos h]
set_option maxRecDepth 100000 in
set_option maxHeartbeats 1600000 in
theorem node_any {w:World} {p q g n cap:Nat} {L:List (List Int)} (k:Nat) (hp:w.cell? ⟨p,q,none⟩=some (.slice (some ⟨g,0,none⟩) n cap)) (hR:Rw w g L) (hn:L.length=n) (hi:18 < n) (hk:k < 32) (hN:isNode (halfAt L k)=true) :
    Calls Tryz.prog 69 #[.pointer (some ⟨p,q,none⟩),.int .i64 k] w fun e w'=>∃ xo m xc,e=.returned ((decN (halfAt L k)).val (.slice xo m xc))∧XIs w' xo m (decN (halfAt L k)).x∧(m≤xc∧xc≤9223372036854775807)∧Below w.heap.size w w':=by
  have hA:Arg w (some ⟨g,(3+k / 2) * 64+k%2 * 32,none⟩) 32 (64 - k%2 * 32) (halfAt L k):=hR.arg (by omega) (by omega) (by omega)
  have hp0:=World.block_lt_of_cell? _ _ hp
  have hpl:∀ W,Below w.heap.size w W→W.cell? ⟨p,q,none⟩=some (.slice (some ⟨g,0,none⟩) n cap):=fun W hW=>by rw [hW.cell (p:=⟨p,q,none⟩) hp0];exact hp
  have HH:Hid (∀ W,Below w.heap.size w W→Calls Tryz.prog 49 #[.pointer (some ⟨p,q,none⟩),.int .i64 k] W fun e w'=>e=.returned (.slice (some ⟨g,(3+k / 2) * 64+k%2 * 32,none⟩) 32 (64 - k%2 * 32))∧W=w'):=Lib.hid (fun W hW=>half_any k (hpl W hW) hi hk)
  obtain ⟨D,hD⟩:∃ D,decN (halfAt L k)=D:=⟨_,rfl⟩
  have HC:Hid (∀ W,Below w.heap.size w W→Calls Tryz.prog 48 #[.slice (some ⟨g,(3+k / 2) * 64+k%2 * 32,none⟩) 32 (64 - k%2 * 32)] W fun e w'=>∃ xo m xc,e=.returned (.tuple #[D.val (.slice xo m xc),.int .i64 0])∧XIs w' xo m D.x∧(m≤xc∧xc≤9223372036854775807)∧Below W.heap.size W w'):=Lib.hid (fun W hW=>by
    have h:=ndec_any _ _ _ _ _ (hA.later hW)
    rw [isNode_err hN,hD] at h
    exact h)
  rw [hD]
  clear hA hR hn hN hD hpl hp
  generalize (3+k / 2) * 64+k%2 * 32=o at *
  generalize 64 - k%2 * 32=c2 at *
  obtain ⟨k0,f,l,z,d0,d1,d2,d3,s,t,x,c⟩:=D
  go_enter Tryz.func69,Tryz.ntmps69
  go_wp2_with (first
    | (go_at_call 49;refine (HH.out _ ((Below.refl _ _).alloc (Nat.le_refl _) _)).mono ?_;rintro e' w3 ⟨rfl,rfl⟩)
    | (go_at_call 48;refine (HC.out _ ((Below.refl _ _).alloc (Nat.le_refl _) _)).mono ?_;rintro e' w3 ⟨xo,m,xc,rfl,hx3,hm3,hb3⟩;have HB3:=Lib.hid hb3;have HX3:=Lib.hid hx3;have HM3:=Lib.hid hm3;clear hb3 hx3 hm3;unfold PNode.val)
    | (go_at_call 114;refine (mustN_any ⟨k0,f,l,z,d0,d1,d2,d3,s,t,x,c⟩ xo m xc _).mono ?_;rintro e' w4 ⟨rfl,hb4⟩;have HB4:=Lib.hid (HB3.out.trans (hb4.mono HB3.out.size));have HX4:=Lib.hid (HX3.out.later hb4);clear hb4;unfold PNode.val)
    | (refine wpList_store_mid rfl 68 (.tmp 4) (.tmp 11) rfl w.heap.size 0 #[.int .i64 k0,.int .i64 f,.int .i64 l,.int .i64 z,.int .i64 d0,.int .i64 d1,.int .i64 d2,.int .i64 d3,.int .i64 s,.int .i64 t,.slice xo m xc,.int .i64 c] rfl rfl (there_newC HB4.out rfl) (by kernel_rfl) (one_node ..) ?_))
  refine bodyPost_ret (v:=.agg #[.int .i64 k0,.int .i64 f,.int .i64 l,.int .i64 z,.int .i64 d0,.int .i64 d1,.int .i64 d2,.int .i64 d3,.int .i64 s,.int .i64 t,.slice xo m xc,.int .i64 c]) ?_ rfl ⟨xo,m,xc,rfl,?_,HM3.out,below_cells _ (Nat.le_refl _) _ _ _ (below_new HB4.out)⟩
  · rw [results_p1 rfl _ rfl]
    exact load_node (n:=⟨k0,f,l,z,d0,d1,d2,d3,s,t,x,c⟩) (World.rangeAt_setCells_same _ _ _ _ (there_newC HB4.out rfl))
  · refine HX4.out.apart (g:=w.heap.size) (fun j hj=>heap_setCells _ _ _ _ _ hj) (fun o' f' c' v hv=>?_)
    rw [HB4.out.cell (p:=⟨w.heap.size,o',none⟩) (by simp),World.cell?_alloc_new] at hv
    exact nodeZ_no o' f' c' v hv
end Go.Proofs.YtcefmpnijjcekaaGreatDoor
