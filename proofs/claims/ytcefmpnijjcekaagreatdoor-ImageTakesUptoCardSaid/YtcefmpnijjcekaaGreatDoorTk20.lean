/- Proved here: what the document's own Decode (drydockref09) answers of 32 bytes that say Format 2; and of any bytes. The conditions stand at each theorem. Proved here: the landed Decode and the document's own read any bytes alike; and the simplest facts that the laws of layer 9 ask hold of the landed node. The conditions stand at each theorem. Proved here: what the landed .. -/
import Derived.Test.YtcefmpnijjcekaaGreatDoorTk19
import Derived.Test.YtcefmpnijjcekaaGreatDoorTk7
import Derived.Test.YtcefmpnijjcekaaGreatDoorTk6
import Derived.Test.YtcefmpnijjcekaaGreatDoorTk4
import Derived.Test.YtcefmpnijjcekaaGreatDoorTk16
set_option linter.unusedVariables false
set_option linter.unusedSimpArgs false
namespace Go.Proofs.YtcefmpnijjcekaaGreatDoor
open Go.RowKit
def kOf (i:Int):Nat:=((i - 6) / 4).toNat
theorem owns_below {w w':World} {base n sz:Nat} {e:TypeId} {v:Value} {xs:List Value} (h:w.ownsRow base e sz v n xs) (hb:Below w.heap.size w w'):w'.ownsRow base e sz v n xs:=by
  refine ⟨h.1,?_⟩
  rcases h.2 with h2 | ⟨g',cap,cur,hv,hg',hh,rest⟩
  · exact Or.inl h2
  · exact Or.inr ⟨g',cap,cur,hv,hg',block_kept hh hb,rest⟩
theorem owns_shape {w:World} {base n sz:Nat} {e:TypeId} {v:Value} {xs:List Value} (h:w.ownsRow base e sz v n xs):∃ ao c,v=.slice ao n c:=by
  rcases h.2 with ⟨hv,h0⟩ | ⟨g',cap,cur,hv,_⟩
  · subst h0;exact ⟨none,0,hv⟩
  · exact ⟨_,_,hv⟩
def NewInv (w0:World) (g base:Nat) (V:Nat→Int) (xs:List PX) (wr:World):Prop:=
  ∃ vv cs,NodeVar w0 g V vv wr∧wr.ownsRow base 99 2 vv xs.length cs∧XCells cs xs
set_option maxRecDepth 100000 in
set_option maxHeartbeats 6400000 in
theorem rdec_new (ao:Option Addr) (cap:Nat) (zs:List Int) (w:World) (hA:Arg w ao 32 cap zs) (hf:zs.getD 1 0=2) :
    Calls Tryz.prog 25 #[.slice ao (32:Nat) cap] w fun e w'=>∃ xo m xc,e=.returned (.tuple #[(rdecN zs).val (.slice xo m xc),.int .i64 (rdecErr zs)])∧XIs w' xo m (rdecN zs).x∧Below w.heap.size w w':=by
  have hrn:rNode zs=⟨zs.getD 0 0,2,leN zs 2 2,leN zs 4 2,0,0,0,0,0,0,rFil (rSlots zs),leN zs 18 2⟩:=by unfold rNode;rw [if_pos hf]
  have hB:=hA.1
  have HB:=Lib.hid hB
  have h32:zs.length=32:=hB.1
  obtain ⟨g,off,rfl,hc⟩:=hB.2.2.2.resolve_left (by decide)
  have f0:=hc 0 (by decide)
  have f1:=hc 1 (by decide)
  rw [Nat.add_zero] at f0
  have b0:=hB.2.2.1 _ (getD_mem (l:=zs) (k:=0) (by omega))
  have b1:=hB.2.2.1 _ (getD_mem (l:=zs) (k:=1) (by omega))
  have HRW:=Lib.hid (rways zs h32)
  have HSM:=Lib.hid (rnode_small hB.2.2.1 h32)
  have HSX:=Lib.hid (rslots_small hB.2.2.1 h32)
  have HZ:=Lib.hid hB.2.2.1
  have H32:=Lib.hid h32
  have hcap:=hA.2.2.1
  have CN:=Lib.hid (fun (W:World) (hW:Below w.heap.size w W) (p k:Int) (h1:0≤p∧0≤k) (h2:k.toNat≤4) (h3:p.toNat+k.toNat≤32)=>num09 (cap:=cap) (pz:=p) (kz:=k) (hB.later hW) h2 h3 h1)
  obtain ⟨x0,HX0⟩:∃ x,Hid (zs.getD 0 0=x):=⟨_,Lib.hid rfl⟩
  obtain ⟨x1,HX1⟩:∃ x,Hid (zs.getD 1 0=x):=⟨_,Lib.hid rfl⟩
  obtain ⟨n2,HN2⟩:∃ x,Hid (leN zs 2 2=x):=⟨_,Lib.hid rfl⟩
  obtain ⟨n4,HN4⟩:∃ x,Hid (leN zs 4 2=x):=⟨_,Lib.hid rfl⟩
  rw [HX0.out] at f0 b0
  rw [HX1.out] at f1 b1 hf
  subst hf
  have w0:IntKind.i64.wrap x0=x0:=by rw [IntKind.wrap_i64];omega
  have hne':((32:Nat):Int)=32:=rfl
  have HTH:Hid (∀ W,Below (w.alloc (.cells #[.int .i64 0,.int .i64 0,.int .i64 0,.int .i64 0,.int .i64 0,.int .i64 0,.int .i64 0,.int .i64 0,.int .i64 0,.int .i64 0,.slice none 0 0,.int .i64 0] 68)).heap.size (w.alloc (.cells #[.int .i64 0,.int .i64 0,.int .i64 0,.int .i64 0,.int .i64 0,.int .i64 0,.int .i64 0,.int .i64 0,.int .i64 0,.int .i64 0,.slice none 0 0,.int .i64 0] 68)) W→W.there w.heap.size 0 12):=Lib.hid (fun W hW=>there_later hW rfl)
  have B1:Hid (Below w.heap.size w (w.alloc (.cells #[.int .i64 0,.int .i64 0,.int .i64 0,.int .i64 0,.int .i64 0,.int .i64 0,.int .i64 0,.int .i64 0,.int .i64 0,.int .i64 0,.slice none 0 0,.int .i64 0] 68))):=Lib.hid ((Below.refl _ _).alloc (Nat.le_refl _) _)
  have HK:Hid (∀ W,Below w.heap.size w W→W.cell? ⟨g,off,none⟩=some (.int .u8 x0)∧W.cell? ⟨g,off+1,none⟩=some (.int .u8 2)∧Hid (Below w.heap.size w W)):=Lib.hid (fun W h=>⟨cell_later h f0,cell_later h f1,Lib.hid h⟩)
  have BD:Hid (Below w.heap.size w (w.alloc (.cells #[.int .i64 0,.int .i64 0,.int .i64 0,.int .i64 0,.int .i64 0,.int .i64 0,.int .i64 0,.int .i64 0,.int .i64 0,.int .i64 0,.slice none 0 0,.int .i64 0] 68)).drew):=Lib.hid B1.out.drew
  have BA:Hid (∀ cs:Array Value,Below w.heap.size w ((w.alloc (.cells #[.int .i64 0,.int .i64 0,.int .i64 0,.int .i64 0,.int .i64 0,.int .i64 0,.int .i64 0,.int .i64 0,.int .i64 0,.int .i64 0,.slice none 0 0,.int .i64 0] 68)).alloc (.cells cs 68)).drew):=Lib.hid (fun cs=>(B1.out.alloc B1.out.size _).drew)
  have NV:Hid (NodeVar (w.alloc (.cells #[.int .i64 0,.int .i64 0,.int .i64 0,.int .i64 0,.int .i64 0,.int .i64 0,.int .i64 0,.int .i64 0,.int .i64 0,.int .i64 0,.slice none 0 0,.int .i64 0] 68)) (w.heap.size+1) (headV x0 2 n2 n4) (.slice none 0 0) ((w.alloc (.cells #[.int .i64 0,.int .i64 0,.int .i64 0,.int .i64 0,.int .i64 0,.int .i64 0,.int .i64 0,.int .i64 0,.int .i64 0,.int .i64 0,.slice none 0 0,.int .i64 0] 68)).alloc (.cells #[.int .i64 x0,.int .i64 2,.int .i64 n2,.int .i64 n4,.int .i64 0,.int .i64 0,.int .i64 0,.int .i64 0,.int .i64 0,.int .i64 0,.slice none 0 0,.int .i64 0] 68)).drew):=Lib.hid (by
    have h:=(nodevar_new (w.alloc (.cells #[.int .i64 0,.int .i64 0,.int .i64 0,.int .i64 0,.int .i64 0,.int .i64 0,.int .i64 0,.int .i64 0,.int .i64 0,.int .i64 0,.slice none 0 0,.int .i64 0] 68)) x0 2 n2 n4).drew
    rw [World.size_alloc] at h
    exact h)
  clear hA hB hc f0 f1 h32
  go_enter Tryz.func25,Tryz.ntmps25
  go_upto_region 3 with fail
  go_cut [4] from 9 (fun s4 wx=>s4=.pointer (some ⟨w.heap.size+1,0,none⟩)∧Hid (NodeVar (w.alloc (.cells #[.int .i64 0,.int .i64 0,.int .i64 0,.int .i64 0,.int .i64 0,.int .i64 0,.int .i64 0,.int .i64 0,.int .i64 0,.int .i64 0,.slice none 0 0,.int .i64 0] 68)) (w.heap.size+1) (headV x0 2 n2 n4) (.slice none 0 0) wx))
  case first=>
    go_region_held (fun W=>W.cell? ⟨g,off,none⟩=some (.int .u8 x0)∧W.cell? ⟨g,off+1,none⟩=some (.int .u8 2)∧Hid (Below w.heap.size w W)) (first | exact HK.out _ BD.out | exact HK.out _ (BA.out _))
      (first | (go_at_call 51;refine (CN.out _ (by first | exact BD.out | exact BA.out _) _ _ (by decide) (by decide) (by decide)).mono ?_;rintro e w' ⟨rfl,rfl⟩;first | rw [show leN zs (Int.toNat 2) (Int.toNat 2)=n2 from HN2.out] | rw [show leN zs (Int.toNat 4) (Int.toNat 2)=n4 from HN4.out]))
    all_goals
      go_wp2_with fail
      go_meet
      case rel=>exact ⟨rfl,NV⟩
  case rest=>
    obtain ⟨rfl,HNV⟩:=hcut
    have q1:wc.cell? ⟨w.heap.size+1,1,none⟩=some (.int .i64 2):=HNV.out.2.1 1 (by decide) (by decide)
    have HRX:Hid ((rNode zs).x=rFil (rSlots zs)):=Lib.hid (by rw [hrn])
    have hval:∀ sl,(rNode zs).val sl=.agg #[.int .i64 x0,.int .i64 2,.int .i64 n2,.int .i64 n4,.int .i64 0,.int .i64 0,.int .i64 0,.int .i64 0,.int .i64 0,.int .i64 0,sl,.int .i64 (leN zs 18 2)]:=fun sl=>by
      rw [hrn,← HX0.out,← HN2.out,← HN4.out];rfl
    obtain ⟨E,O,hEO⟩:∃ E O,nodeErr (rNode zs)=E∧nodeOut (rNode zs)=O:=⟨_,_,rfl,rfl⟩
    have H3:Hid ((E=2∧rdecErr zs=2∧rdecN zs=noNode)∨(E=0∧((str O).toList == (str zs).toList)=true∧rdecErr zs=0∧rdecN zs=rNode zs)∨(E=0∧((str O).toList == (str zs).toList)=false∧rdecErr zs=2∧rdecN zs=noNode)):=Lib.hid (by
      obtain ⟨e1,e2⟩:=hEO
      unfold nodeErr at e1
      unfold nodeOut at e2
      rcases HRW.out with ⟨hs,hb,hg,he⟩ | ⟨hs,hb,hg,he⟩ | ⟨hs,hg,he⟩
      · rw [if_pos hs] at e1 e2
        right;left
        rw [hb] at e2
        exact ⟨e1.symm,by rw [← e2];simp,he,hg⟩
      · rw [if_pos hs] at e1 e2
        right;right
        refine ⟨e1.symm,?_,he,hg⟩
        rw [← e2,str_eq (node32_bytes _ HSM.out) HZ.out,decide_eq_false hb]
      · rw [hs,if_neg (by decide)] at e1
        exact Or.inl ⟨e1.symm,he,hg⟩)
    have cE:=fun (W:World) {xo:Option Addr} {m xc:Nat} (hX:XIs W xo m (rNode zs).x)=>renc_any (cap:=xc) (rNode zs) W HSM.out hX
    rw [hEO.1,hEO.2] at cE
    have CE0:=Lib.hid cE
    clear cE hEO hrn HK BD BA NV
    have SC:=st_cx
    go_wp2_with fail
    go_loopw [5] (fun iv wr=>∃ i:Int,iv=.int .i64 i∧(i=6∨i=10∨i=14∨i=18)∧Hid (NewInv (w.alloc (.cells #[.int .i64 0,.int .i64 0,.int .i64 0,.int .i64 0,.int .i64 0,.int .i64 0,.int .i64 0,.int .i64 0,.int .i64 0,.int .i64 0,.slice none 0 0,.int .i64 0] 68)) (w.heap.size+1) (w.heap.size+2) (headV x0 2 n2 n4) (rFil ((rSlots zs).take (kOf i))) wr)) (fun iv _=>18 - (intOf iv).toNat)
    case atStart=>exact ⟨6,rfl,by decide,Lib.hid ⟨_,[],HNV.out,World.ownsRow_nil _ _ _ _,trivial⟩⟩
    case round=>
      obtain ⟨i,rfl,hi,HR⟩:=hrel
      have BR:Hid (Below w.heap.size w wr):=Lib.hid (by obtain ⟨vv,cs,h,_⟩:=HR.out;exact B1.out.trans (h.1.mono B1.out.size))
      rcases hi with rfl | rfl | rfl | rfl
      · by_cases hz:(⟨zs.getD 6 0,leN zs 7 2,zs.getD 9 0⟩:PX)=noX
        · have hx:(rSlots zs)[0]?=some ⟨zs.getD 6 0,leN zs 7 2,zs.getD 9 0⟩:=rfl
          have st:=rfil_step hx
          have sz:=sub_zero HZ.out (i:=6) (by rw [H32.out];decide)
          have BS:Bts wr (some ⟨g,off+6,none⟩) 4 ((zs.drop 6).take 4):=bts_take (bts_drop (HB.out.later BR.out) (k:=6) (by decide)) (k:=4) (by decide)
          have s4:=str_bytes (cap:=cap - 6) BS
          have e0:(str [0,0,0,0]).toList=[(0:UInt8),0,0,0]:=by rw [Go.ByteArray.toList_eq,str_data];rfl
          have se:((str ((zs.drop 6).take 4)).toList == [(0:UInt8),0,0,0])=decide (((zs.drop 6).take 4)=[0,0,0,0]):=by rw [← e0];exact str_eq (m:=[0,0,0,0]) BS.2.2.1 (by decide)
          clear e0
          rw [sz] at se
          have HBS:=Lib.hid BS
          clear BS sz hx
          generalize str ((zs.drop 6).take 4)=sx at s4 se
          rw [decide_eq_true hz] at se
          rw [if_pos hz] at st
          have HST:=Lib.hid st
          clear st hz
          go_wp2_with fail
          go_roundw
          case rel=>exact ⟨10,by go_num,by decide,Lib.hid (by rw [show kOf 10=0+1 from rfl,HST.out];exact HR.out)⟩
          case measure=>simp [intOf]
        · have hx:(rSlots zs)[0]?=some ⟨zs.getD 6 0,leN zs 7 2,zs.getD 9 0⟩:=rfl
          have st:=rfil_step hx
          have sz:=sub_zero HZ.out (i:=6) (by rw [H32.out];decide)
          have BS:Bts wr (some ⟨g,off+6,none⟩) 4 ((zs.drop 6).take 4):=bts_take (bts_drop (HB.out.later BR.out) (k:=6) (by decide)) (k:=4) (by decide)
          have s4:=str_bytes (cap:=cap - 6) BS
          have e0:(str [0,0,0,0]).toList=[(0:UInt8),0,0,0]:=by rw [Go.ByteArray.toList_eq,str_data];rfl
          have se:((str ((zs.drop 6).take 4)).toList == [(0:UInt8),0,0,0])=decide (((zs.drop 6).take 4)=[0,0,0,0]):=by rw [← e0];exact str_eq (m:=[0,0,0,0]) BS.2.2.1 (by decide)
          clear e0
          rw [sz] at se
          have HBS:=Lib.hid BS
          clear BS sz hx
          generalize str ((zs.drop 6).take 4)=sx at s4 se
          rw [decide_eq_false hz] at se
          rw [if_neg hz] at st
          have HST:=Lib.hid st
          clear st hz
          rw [show kOf 6=0 from rfl] at HR
          obtain ⟨vv,cs,hnv,hown,hcs⟩:=HR.out
          have c10:=hnv.2.2.1
          have f10:=hnv.2.2.2
          have HNVR:=Lib.hid hnv
          have HO:=Lib.hid hown
          have HCS:=Lib.hid hcs
          have HSZ:Hid (w.heap.size+2≤wr.heap.size):=Lib.hid hnv.lt
          have sl:=sub_leN (zs:=zs) (i:=6) (by rw [H32.out];decide)
          have CG:Hid (Calls Tryz.prog 54 #[.slice (some ⟨g,off+6,none⟩) (4:Nat) (cap - 6)] wr.drew fun e w'=>∃ p q,e=.returned (.agg #[.int .i64 (zs.getD 6 0),.complex .f64 p q])∧FI p (leN zs 7 2)∧FI q (zs.getD 9 0)∧Below wr.drew.heap.size wr.drew w'):=Lib.hid (by
            have h:=GetExtent_any g (off+6) (cap - 6) ((zs.drop 6).take 4) wr.drew (HBS.out.later (Below.refl _ _).drew)
            rw [sl.1,sl.2.1,sl.2.2] at h
            exact h)
          obtain ⟨ea,HEA⟩:∃ x,Hid (zs.getD 6 0=x):=⟨_,Lib.hid rfl⟩
          rw [HEA.out] at CG HST
          clear hnv hown hcs sl
          have wr1:IntKind.i64.wrap 10=10:=by rw [IntKind.wrap_i64];omega
          have hc1:(10:Int)≤(cap:Int):=by omega
          have hc2:¬ cap=6:=by omega
          go_wp2_with fail
          have HL:Hid ((rFil ((rSlots zs).take 0)).length≤3):=Lib.hid (Nat.le_trans (rfil_length _) (by rw [List.length_take];exact Nat.le_trans (Nat.min_le_left _ _) (by decide)))
          go_region_law (first
            | (go_simp;go_at_call 54;refine CG.out.mono ?_;rintro e w3 ⟨p,q,rfl,hp,hq,hb⟩;have HP:=Lib.hid (And.intro hp hq);have NV3:=Lib.hid (HNVR.out.drew.later hb);have c103:=NV3.out.2.2.1;have c103a:=cell_later ((Below.refl _ _).alloc (Nat.le_refl _) (.cells #[.int .i64 ea,.complex .f64 p q] 99)) c103;have HO3:=Lib.hid (owns_below (owns_drew HO.out) hb);have HS3:=Lib.hid (Nat.le_trans HSZ.out hb.size);clear hp hq hb)
            | (refine step_append_ks (o:=⟨some 49,_,_,_,_,_⟩) elemExtent rfl (.tmp 41) (.tmp 48) rfl (w.heap.size+2) _ vv cs rfl (HO3.out.alloc _) ⟨w3.heap.size,0,none⟩ 1 1 [.int .i64 ea,.complex .f64 p q] rfl rfl (news_made w3 [.int .i64 ea,.complex .f64 p q] _) (by intro u hu;simp only [List.mem_cons,List.mem_nil_iff,or_false] at hu;rcases hu with rfl | rfl <;> rfl) (by have:=HL.out;omega) (by have:=HS3.out;simp;omega) ?_;intro v4 w4 hown4 hg4 hb4;obtain ⟨ao4,cp4,rfl⟩:=owns_shape hown4;have HO4:=Lib.hid hown4;have c104:=cell_under hb4 (cell_later ((Below.refl _ _).alloc (Nat.le_refl _) (.cells #[.int .i64 ea,.complex .f64 p q] 99)) c103) (by show w.heap.size+1 < w.heap.size+2;omega);have f104:=frozen_under hb4 (NodeVar.later NV3.out ((Below.refl _ _).alloc (Nat.le_refl _) (.cells #[.int .i64 ea,.complex .f64 p q] 99))).2.2.2 (by omega);have NV4:=Lib.hid ((NodeVar.later NV3.out ((Below.refl _ _).alloc (Nat.le_refl _) (.cells #[.int .i64 ea,.complex .f64 p q] 99))).under hb4 (by omega) (by simp));clear hown4 hg4 hb4))
          all_goals
            go_wp2_with fail
            go_roundw
            case rel=>exact ⟨10,by go_num,by decide,Lib.hid (by rw [show kOf 10=0+1 from rfl,HST.out];exact ⟨_,_,NV4.out.setSl (by simp),by rw [List.length_append];exact owns_setCell HO4.out (by omega),XCells.snoc (x:=⟨ea,_,_⟩) HCS.out ⟨p,q,rfl,HP.out.1,HP.out.2⟩⟩)⟩
            case measure=>simp [intOf]
      · by_cases hz:(⟨zs.getD 10 0,leN zs 11 2,zs.getD 13 0⟩:PX)=noX
        · have hx:(rSlots zs)[1]?=some ⟨zs.getD 10 0,leN zs 11 2,zs.getD 13 0⟩:=rfl
          have st:=rfil_step hx
          have sz:=sub_zero HZ.out (i:=10) (by rw [H32.out];decide)
          have BS:Bts wr (some ⟨g,off+10,none⟩) 4 ((zs.drop 10).take 4):=bts_take (bts_drop (HB.out.later BR.out) (k:=10) (by decide)) (k:=4) (by decide)
          have s4:=str_bytes (cap:=cap - 10) BS
          have e0:(str [0,0,0,0]).toList=[(0:UInt8),0,0,0]:=by rw [Go.ByteArray.toList_eq,str_data];rfl
          have se:((str ((zs.drop 10).take 4)).toList == [(0:UInt8),0,0,0])=decide (((zs.drop 10).take 4)=[0,0,0,0]):=by rw [← e0];exact str_eq (m:=[0,0,0,0]) BS.2.2.1 (by decide)
          clear e0
          rw [sz] at se
          have HBS:=Lib.hid BS
          clear BS sz hx
          generalize str ((zs.drop 10).take 4)=sx at s4 se
          rw [decide_eq_true hz] at se
          rw [if_pos hz] at st
          have HST:=Lib.hid st
          clear st hz
          go_wp2_with fail
          go_roundw
          case rel=>exact ⟨14,by go_num,by decide,Lib.hid (by rw [show kOf 14=1+1 from rfl,HST.out];exact HR.out)⟩
          case measure=>simp [intOf]
        · have hx:(rSlots zs)[1]?=some ⟨zs.getD 10 0,leN zs 11 2,zs.getD 13 0⟩:=rfl
          have st:=rfil_step hx
          have sz:=sub_zero HZ.out (i:=10) (by rw [H32.out];decide)
          have BS:Bts wr (some ⟨g,off+10,none⟩) 4 ((zs.drop 10).take 4):=bts_take (bts_drop (HB.out.later BR.out) (k:=10) (by decide)) (k:=4) (by decide)
          have s4:=str_bytes (cap:=cap - 10) BS
          have e0:(str [0,0,0,0]).toList=[(0:UInt8),0,0,0]:=by rw [Go.ByteArray.toList_eq,str_data];rfl
          have se:((str ((zs.drop 10).take 4)).toList == [(0:UInt8),0,0,0])=decide (((zs.drop 10).take 4)=[0,0,0,0]):=by rw [← e0];exact str_eq (m:=[0,0,0,0]) BS.2.2.1 (by decide)
          clear e0
          rw [sz] at se
          have HBS:=Lib.hid BS
          clear BS sz hx
          generalize str ((zs.drop 10).take 4)=sx at s4 se
          rw [decide_eq_false hz] at se
          rw [if_neg hz] at st
          have HST:=Lib.hid st
          clear st hz
          rw [show kOf 10=1 from rfl] at HR
          obtain ⟨vv,cs,hnv,hown,hcs⟩:=HR.out
          have c10:=hnv.2.2.1
          have f10:=hnv.2.2.2
          have HNVR:=Lib.hid hnv
          have HO:=Lib.hid hown
          have HCS:=Lib.hid hcs
          have HSZ:Hid (w.heap.size+2≤wr.heap.size):=Lib.hid hnv.lt
          have sl:=sub_leN (zs:=zs) (i:=10) (by rw [H32.out];decide)
          have CG:Hid (Calls Tryz.prog 54 #[.slice (some ⟨g,off+10,none⟩) (4:Nat) (cap - 10)] wr.drew fun e w'=>∃ p q,e=.returned (.agg #[.int .i64 (zs.getD 10 0),.complex .f64 p q])∧FI p (leN zs 11 2)∧FI q (zs.getD 13 0)∧Below wr.drew.heap.size wr.drew w'):=Lib.hid (by
            have h:=GetExtent_any g (off+10) (cap - 10) ((zs.drop 10).take 4) wr.drew (HBS.out.later (Below.refl _ _).drew)
            rw [sl.1,sl.2.1,sl.2.2] at h
            exact h)
          obtain ⟨ea,HEA⟩:∃ x,Hid (zs.getD 10 0=x):=⟨_,Lib.hid rfl⟩
          rw [HEA.out] at CG HST
          clear hnv hown hcs sl
          have wr1:IntKind.i64.wrap 14=14:=by rw [IntKind.wrap_i64];omega
          have hc1:(14:Int)≤(cap:Int):=by omega
          have hc2:¬ cap=10:=by omega
          go_wp2_with fail
          have HL:Hid ((rFil ((rSlots zs).take 1)).length≤3):=Lib.hid (Nat.le_trans (rfil_length _) (by rw [List.length_take];exact Nat.le_trans (Nat.min_le_left _ _) (by decide)))
          go_region_law (first
            | (go_simp;go_at_call 54;refine CG.out.mono ?_;rintro e w3 ⟨p,q,rfl,hp,hq,hb⟩;have HP:=Lib.hid (And.intro hp hq);have NV3:=Lib.hid (HNVR.out.drew.later hb);have c103:=NV3.out.2.2.1;have c103a:=cell_later ((Below.refl _ _).alloc (Nat.le_refl _) (.cells #[.int .i64 ea,.complex .f64 p q] 99)) c103;have HO3:=Lib.hid (owns_below (owns_drew HO.out) hb);have HS3:=Lib.hid (Nat.le_trans HSZ.out hb.size);clear hp hq hb)
            | (refine step_append_ks (o:=⟨some 49,_,_,_,_,_⟩) elemExtent rfl (.tmp 41) (.tmp 48) rfl (w.heap.size+2) _ vv cs rfl (HO3.out.alloc _) ⟨w3.heap.size,0,none⟩ 1 1 [.int .i64 ea,.complex .f64 p q] rfl rfl (news_made w3 [.int .i64 ea,.complex .f64 p q] _) (by intro u hu;simp only [List.mem_cons,List.mem_nil_iff,or_false] at hu;rcases hu with rfl | rfl <;> rfl) (by have:=HL.out;omega) (by have:=HS3.out;simp;omega) ?_;intro v4 w4 hown4 hg4 hb4;obtain ⟨ao4,cp4,rfl⟩:=owns_shape hown4;have HO4:=Lib.hid hown4;have c104:=cell_under hb4 (cell_later ((Below.refl _ _).alloc (Nat.le_refl _) (.cells #[.int .i64 ea,.complex .f64 p q] 99)) c103) (by show w.heap.size+1 < w.heap.size+2;omega);have f104:=frozen_under hb4 (NodeVar.later NV3.out ((Below.refl _ _).alloc (Nat.le_refl _) (.cells #[.int .i64 ea,.complex .f64 p q] 99))).2.2.2 (by omega);have NV4:=Lib.hid ((NodeVar.later NV3.out ((Below.refl _ _).alloc (Nat.le_refl _) (.cells #[.int .i64 ea,.complex .f64 p q] 99))).under hb4 (by omega) (by simp));clear hown4 hg4 hb4))
          all_goals
            go_wp2_with fail
            go_roundw
            case rel=>exact ⟨14,by go_num,by decide,Lib.hid (by rw [show kOf 14=1+1 from rfl,HST.out];exact ⟨_,_,NV4.out.setSl (by simp),by rw [List.length_append];exact owns_setCell HO4.out (by omega),XCells.snoc (x:=⟨ea,_,_⟩) HCS.out ⟨p,q,rfl,HP.out.1,HP.out.2⟩⟩)⟩
            case measure=>simp [intOf]
      · by_cases hz:(⟨zs.getD 14 0,leN zs 15 2,zs.getD 17 0⟩:PX)=noX
        · have hx:(rSlots zs)[2]?=some ⟨zs.getD 14 0,leN zs 15 2,zs.getD 17 0⟩:=rfl
          have st:=rfil_step hx
          have sz:=sub_zero HZ.out (i:=14) (by rw [H32.out];decide)
          have BS:Bts wr (some ⟨g,off+14,none⟩) 4 ((zs.drop 14).take 4):=bts_take (bts_drop (HB.out.later BR.out) (k:=14) (by decide)) (k:=4) (by decide)
          have s4:=str_bytes (cap:=cap - 14) BS
          have e0:(str [0,0,0,0]).toList=[(0:UInt8),0,0,0]:=by rw [Go.ByteArray.toList_eq,str_data];rfl
          have se:((str ((zs.drop 14).take 4)).toList == [(0:UInt8),0,0,0])=decide (((zs.drop 14).take 4)=[0,0,0,0]):=by rw [← e0];exact str_eq (m:=[0,0,0,0]) BS.2.2.1 (by decide)
          clear e0
          rw [sz] at se
          have HBS:=Lib.hid BS
          clear BS sz hx
          generalize str ((zs.drop 14).take 4)=sx at s4 se
          rw [decide_eq_true hz] at se
          rw [if_pos hz] at st
          have HST:=Lib.hid st
          clear st hz
          go_wp2_with fail
          go_roundw
          case rel=>exact ⟨18,by go_num,by decide,Lib.hid (by rw [show kOf 18=2+1 from rfl,HST.out];exact HR.out)⟩
          case measure=>simp [intOf]
        · have hx:(rSlots zs)[2]?=some ⟨zs.getD 14 0,leN zs 15 2,zs.getD 17 0⟩:=rfl
          have st:=rfil_step hx
          have sz:=sub_zero HZ.out (i:=14) (by rw [H32.out];decide)
          have BS:Bts wr (some ⟨g,off+14,none⟩) 4 ((zs.drop 14).take 4):=bts_take (bts_drop (HB.out.later BR.out) (k:=14) (by decide)) (k:=4) (by decide)
          have s4:=str_bytes (cap:=cap - 14) BS
          have e0:(str [0,0,0,0]).toList=[(0:UInt8),0,0,0]:=by rw [Go.ByteArray.toList_eq,str_data];rfl
          have se:((str ((zs.drop 14).take 4)).toList == [(0:UInt8),0,0,0])=decide (((zs.drop 14).take 4)=[0,0,0,0]):=by rw [← e0];exact str_eq (m:=[0,0,0,0]) BS.2.2.1 (by decide)
          clear e0
          rw [sz] at se
          have HBS:=Lib.hid BS
          clear BS sz hx
          generalize str ((zs.drop 14).take 4)=sx at s4 se
          rw [decide_eq_false hz] at se
          rw [if_neg hz] at st
          have HST:=Lib.hid st
          clear st hz
          rw [show kOf 14=2 from rfl] at HR
          obtain ⟨vv,cs,hnv,hown,hcs⟩:=HR.out
          have c10:=hnv.2.2.1
          have f10:=hnv.2.2.2
          have HNVR:=Lib.hid hnv
          have HO:=Lib.hid hown
          have HCS:=Lib.hid hcs
          have HSZ:Hid (w.heap.size+2≤wr.heap.size):=Lib.hid hnv.lt
          have sl:=sub_leN (zs:=zs) (i:=14) (by rw [H32.out];decide)
          have CG:Hid (Calls Tryz.prog 54 #[.slice (some ⟨g,off+14,none⟩) (4:Nat) (cap - 14)] wr.drew fun e w'=>∃ p q,e=.returned (.agg #[.int .i64 (zs.getD 14 0),.complex .f64 p q])∧FI p (leN zs 15 2)∧FI q (zs.getD 17 0)∧Below wr.drew.heap.size wr.drew w'):=Lib.hid (by
            have h:=GetExtent_any g (off+14) (cap - 14) ((zs.drop 14).take 4) wr.drew (HBS.out.later (Below.refl _ _).drew)
            rw [sl.1,sl.2.1,sl.2.2] at h
            exact h)
          obtain ⟨ea,HEA⟩:∃ x,Hid (zs.getD 14 0=x):=⟨_,Lib.hid rfl⟩
          rw [HEA.out] at CG HST
          clear hnv hown hcs sl
          have wr1:IntKind.i64.wrap 18=18:=by rw [IntKind.wrap_i64];omega
          have hc1:(18:Int)≤(cap:Int):=by omega
          have hc2:¬ cap=14:=by omega
          go_wp2_with fail
          have HL:Hid ((rFil ((rSlots zs).take 2)).length≤3):=Lib.hid (Nat.le_trans (rfil_length _) (by rw [List.length_take];exact Nat.le_trans (Nat.min_le_left _ _) (by decide)))
          go_region_law (first
            | (go_simp;go_at_call 54;refine CG.out.mono ?_;rintro e w3 ⟨p,q,rfl,hp,hq,hb⟩;have HP:=Lib.hid (And.intro hp hq);have NV3:=Lib.hid (HNVR.out.drew.later hb);have c103:=NV3.out.2.2.1;have c103a:=cell_later ((Below.refl _ _).alloc (Nat.le_refl _) (.cells #[.int .i64 ea,.complex .f64 p q] 99)) c103;have HO3:=Lib.hid (owns_below (owns_drew HO.out) hb);have HS3:=Lib.hid (Nat.le_trans HSZ.out hb.size);clear hp hq hb)
            | (refine step_append_ks (o:=⟨some 49,_,_,_,_,_⟩) elemExtent rfl (.tmp 41) (.tmp 48) rfl (w.heap.size+2) _ vv cs rfl (HO3.out.alloc _) ⟨w3.heap.size,0,none⟩ 1 1 [.int .i64 ea,.complex .f64 p q] rfl rfl (news_made w3 [.int .i64 ea,.complex .f64 p q] _) (by intro u hu;simp only [List.mem_cons,List.mem_nil_iff,or_false] at hu;rcases hu with rfl | rfl <;> rfl) (by have:=HL.out;omega) (by have:=HS3.out;simp;omega) ?_;intro v4 w4 hown4 hg4 hb4;obtain ⟨ao4,cp4,rfl⟩:=owns_shape hown4;have HO4:=Lib.hid hown4;have c104:=cell_under hb4 (cell_later ((Below.refl _ _).alloc (Nat.le_refl _) (.cells #[.int .i64 ea,.complex .f64 p q] 99)) c103) (by show w.heap.size+1 < w.heap.size+2;omega);have f104:=frozen_under hb4 (NodeVar.later NV3.out ((Below.refl _ _).alloc (Nat.le_refl _) (.cells #[.int .i64 ea,.complex .f64 p q] 99))).2.2.2 (by omega);have NV4:=Lib.hid ((NodeVar.later NV3.out ((Below.refl _ _).alloc (Nat.le_refl _) (.cells #[.int .i64 ea,.complex .f64 p q] 99))).under hb4 (by omega) (by simp));clear hown4 hg4 hb4))
          all_goals
            go_wp2_with fail
            go_roundw
            case rel=>exact ⟨18,by go_num,by decide,Lib.hid (by rw [show kOf 18=2+1 from rfl,HST.out];exact ⟨_,_,NV4.out.setSl (by simp),by rw [List.length_append];exact owns_setCell HO4.out (by omega),XCells.snoc (x:=⟨ea,_,_⟩) HCS.out ⟨p,q,rfl,HP.out.1,HP.out.2⟩⟩)⟩
            case measure=>simp [intOf]
      · obtain ⟨vv,cs,hnv,hown,hcs⟩:=HR.out
        rw [show (rSlots zs).take (kOf 18)=rSlots zs from rfl] at hown hcs
        have hl:(rFil (rSlots zs)).length≤3:=rfil_length _
        obtain ⟨xo,xc,rfl,hX,hxc,hxb⟩:=XIs.of_owns hown hcs rfl hl
        obtain ⟨xm,HXM⟩:∃ m,Hid ((rFil (rSlots zs)).length=m):=⟨_,Lib.hid rfl⟩
        rw [HXM.out] at hX hxc hnv
        obtain ⟨c,DC⟩:∃ d,leN zs 18 2=d:=⟨_,rfl⟩
        rw [DC] at hval
        have HRN:=Lib.hid (hval (.slice xo xm xc))
        have HDC:=Lib.hid DC
        have HX:=Lib.hid hX
        have HXB:=Lib.hid hxb
        have k11:wr.cell? ⟨w.heap.size+1,11,none⟩=some (.int .i64 0):=hnv.2.1 11 (by decide) (by decide)
        have fz:=hnv.2.2.2
        have NQ:=Lib.hid (hnv.set (by simp) (k:=11) (by decide) (by decide) c)
        have BQ:=Lib.hid (B1.out.trans (NQ.out.1.mono B1.out.size))
        have HXQ:Hid (XIs (wr.setCell ⟨w.heap.size+1,11,none⟩ (.int .i64 c)) xo xm (rFil (rSlots zs))):=Lib.hid (HX.out.setCell (fun b o s h=>by have:=HXB.out b o s h;omega))
        have c0:(wr.setCell ⟨w.heap.size+1,11,none⟩ (.int .i64 c)).cell? ⟨w.heap.size+1,0,none⟩=some (.int .i64 x0):=NQ.out.2.1 0 (by decide) (by decide)
        have c1:(wr.setCell ⟨w.heap.size+1,11,none⟩ (.int .i64 c)).cell? ⟨w.heap.size+1,1,none⟩=some (.int .i64 2):=NQ.out.2.1 1 (by decide) (by decide)
        have c2:(wr.setCell ⟨w.heap.size+1,11,none⟩ (.int .i64 c)).cell? ⟨w.heap.size+1,2,none⟩=some (.int .i64 n2):=NQ.out.2.1 2 (by decide) (by decide)
        have c3:(wr.setCell ⟨w.heap.size+1,11,none⟩ (.int .i64 c)).cell? ⟨w.heap.size+1,3,none⟩=some (.int .i64 n4):=NQ.out.2.1 3 (by decide) (by decide)
        have c4:(wr.setCell ⟨w.heap.size+1,11,none⟩ (.int .i64 c)).cell? ⟨w.heap.size+1,4,none⟩=some (.int .i64 0):=NQ.out.2.1 4 (by decide) (by decide)
        have c5:(wr.setCell ⟨w.heap.size+1,11,none⟩ (.int .i64 c)).cell? ⟨w.heap.size+1,5,none⟩=some (.int .i64 0):=NQ.out.2.1 5 (by decide) (by decide)
        have c6:(wr.setCell ⟨w.heap.size+1,11,none⟩ (.int .i64 c)).cell? ⟨w.heap.size+1,6,none⟩=some (.int .i64 0):=NQ.out.2.1 6 (by decide) (by decide)
        have c7:(wr.setCell ⟨w.heap.size+1,11,none⟩ (.int .i64 c)).cell? ⟨w.heap.size+1,7,none⟩=some (.int .i64 0):=NQ.out.2.1 7 (by decide) (by decide)
        have c8:(wr.setCell ⟨w.heap.size+1,11,none⟩ (.int .i64 c)).cell? ⟨w.heap.size+1,8,none⟩=some (.int .i64 0):=NQ.out.2.1 8 (by decide) (by decide)
        have c9:(wr.setCell ⟨w.heap.size+1,11,none⟩ (.int .i64 c)).cell? ⟨w.heap.size+1,9,none⟩=some (.int .i64 0):=NQ.out.2.1 9 (by decide) (by decide)
        have c10:=NQ.out.2.2.1
        have c11:(wr.setCell ⟨w.heap.size+1,11,none⟩ (.int .i64 c)).cell? ⟨w.heap.size+1,11,none⟩=some (.int .i64 c):=NQ.out.2.1 11 (by decide) (by decide)
        have CE:Hid (∀ W,Below (wr.setCell ⟨w.heap.size+1,11,none⟩ (.int .i64 c)).heap.size (wr.setCell ⟨w.heap.size+1,11,none⟩ (.int .i64 c)) W→Calls Tryz.prog 55 #[.agg #[.int .i64 x0,.int .i64 2,.int .i64 n2,.int .i64 n4,.int .i64 0,.int .i64 0,.int .i64 0,.int .i64 0,.int .i64 0,.int .i64 0,.slice xo xm xc,.int .i64 c]] W (Handed W.heap.size W O E)):=Lib.hid (fun W hW=>by
          have h:=CE0.out W (xo:=xo) (m:=xm) (xc:=xc) (by rw [HRX.out];exact HXQ.out.later hW)
          rw [HRN.out] at h
          exact h)
        clear DC hval CE0 hnv hown hcs hX hxb
        rcases H3.out with ⟨h1,h2,h3⟩ | ⟨h1,h4,h2,h3⟩ | ⟨h1,h4,h2,h3⟩
        · subst h1
          have G2:=Lib.hid h2
          have G3:=Lib.hid h3
          clear h2 h3
          go_wp2_with (first
            | (go_at_call 51;refine (CN.out _ (by exact BR.out) _ _ (by decide) (by decide) (by decide)).mono ?_;rintro e w' ⟨rfl,rfl⟩;rw [show leN zs (Int.toNat 18) (Int.toNat 2)=c from HDC.out])
            | (go_at_call 55;refine (CE.out _ (by first | exact Below.refl _ _ | exact Below.refl _ _)).mono ?_;rintro e w5 ⟨v5,rfl,hf5,hb5⟩;have k1:=fresh_str hf5;have k2:=str_bytes (cap:=cap) (HB.out.later (BQ.out.trans (hb5.mono BQ.out.size)));have T5:=Lib.hid (HTH.out w5 (NQ.out.1.trans (hb5.mono NQ.out.1.size)));have B5:=Lib.hid (BQ.out.trans (hb5.mono BQ.out.size));have HB5:=Lib.hid hb5;have u0:=cell_later hb5 c0;have u1:=cell_later hb5 c1;have u2:=cell_later hb5 c2;have u3:=cell_later hb5 c3;have u4:=cell_later hb5 c4;have u5:=cell_later hb5 c5;have u6:=cell_later hb5 c6;have u7:=cell_later hb5 c7;have u8:=cell_later hb5 c8;have u9:=cell_later hb5 c9;have u10:=cell_later hb5 c10;have u11:=cell_later hb5 c11;clear hf5 hb5)
            | (refine wpList_store_mid rfl 68 (.tmp 2) (.tmp 86) rfl w.heap.size 0 (List.toArray [.int .i64 0,.int .i64 0,.int .i64 0,.int .i64 0,.int .i64 0,.int .i64 0,.int .i64 0,.int .i64 0,.int .i64 0,.int .i64 0,.slice none 0 0,.int .i64 0]) rfl rfl T5.out (by kernel_rfl) (all_oneCell_toArray (by intro v hv;simp only [List.mem_cons,List.mem_nil_iff,or_false] at hv;rcases hv with rfl | rfl | rfl | rfl | rfl | rfl | rfl | rfl | rfl | rfl | rfl | rfl <;> rfl)) ?_;have RG:=World.rangeAt_setCells_same w5 w.heap.size 0 [.int .i64 0,.int .i64 0,.int .i64 0,.int .i64 0,.int .i64 0,.int .i64 0,.int .i64 0,.int .i64 0,.int .i64 0,.int .i64 0,.slice none 0 0,.int .i64 0] T5.out;have BF:=Lib.hid (below_setCells (B:=w.heap.size) (g:=w.heap.size) B5.out (Nat.le_refl _) [.int .i64 0,.int .i64 0,.int .i64 0,.int .i64 0,.int .i64 0,.int .i64 0,.int .i64 0,.int .i64 0,.int .i64 0,.int .i64 0,.slice none 0 0,.int .i64 0] 0);generalize w5.setCells w.heap.size 0 [.int .i64 0,.int .i64 0,.int .i64 0,.int .i64 0,.int .i64 0,.int .i64 0,.int .i64 0,.int .i64 0,.int .i64 0,.int .i64 0,.slice none 0 0,.int .i64 0]=W9 at *;have y0:=RG 0 _ rfl;have y1:=RG 1 _ rfl;have y2:=RG 2 _ rfl;have y3:=RG 3 _ rfl;have y4:=RG 4 _ rfl;have y5:=RG 5 _ rfl;have y6:=RG 6 _ rfl;have y7:=RG 7 _ rfl;have y8:=RG 8 _ rfl;have y9:=RG 9 _ rfl;have y10:=RG 10 _ rfl;have y11:=RG 11 _ rfl;clear RG))
          refine bodyPost_ret (v:=.tuple #[(rdecN zs).val (.slice none 0 0),.int .i64 (rdecErr zs)]) ?_ rfl ⟨none,0,0,rfl,by rw [G3.out];exact XIs.nil _,BF.out⟩
          rw [G2.out,G3.out,results_cell_tmp rfl]
          unfold noNode PNode.val
          go_simp
          try rfl
        · subst h1
          have G2:=Lib.hid h2
          have G3:=Lib.hid h3
          clear h2 h3
          go_wp2_with (first
            | (go_at_call 51;refine (CN.out _ (by exact BR.out) _ _ (by decide) (by decide) (by decide)).mono ?_;rintro e w' ⟨rfl,rfl⟩;rw [show leN zs (Int.toNat 18) (Int.toNat 2)=c from HDC.out])
            | (go_at_call 55;refine (CE.out _ (by first | exact Below.refl _ _ | exact Below.refl _ _)).mono ?_;rintro e w5 ⟨v5,rfl,hf5,hb5⟩;have k1:=fresh_str hf5;have k2:=str_bytes (cap:=cap) (HB.out.later (BQ.out.trans (hb5.mono BQ.out.size)));have T5:=Lib.hid (HTH.out w5 (NQ.out.1.trans (hb5.mono NQ.out.1.size)));have B5:=Lib.hid (BQ.out.trans (hb5.mono BQ.out.size));have HB5:=Lib.hid hb5;have u0:=cell_later hb5 c0;have u1:=cell_later hb5 c1;have u2:=cell_later hb5 c2;have u3:=cell_later hb5 c3;have u4:=cell_later hb5 c4;have u5:=cell_later hb5 c5;have u6:=cell_later hb5 c6;have u7:=cell_later hb5 c7;have u8:=cell_later hb5 c8;have u9:=cell_later hb5 c9;have u10:=cell_later hb5 c10;have u11:=cell_later hb5 c11;clear hf5 hb5)
            | (refine wpList_store_mid rfl 68 (.tmp 2) (.tmp 87) rfl w.heap.size 0 (List.toArray [.int .i64 x0,.int .i64 2,.int .i64 n2,.int .i64 n4,.int .i64 0,.int .i64 0,.int .i64 0,.int .i64 0,.int .i64 0,.int .i64 0,.slice xo xm xc,.int .i64 c]) rfl rfl T5.out (by kernel_rfl) (all_oneCell_toArray (by intro v hv;simp only [List.mem_cons,List.mem_nil_iff,or_false] at hv;rcases hv with rfl | rfl | rfl | rfl | rfl | rfl | rfl | rfl | rfl | rfl | rfl | rfl <;> rfl)) ?_;have RG:=World.rangeAt_setCells_same w5 w.heap.size 0 [.int .i64 x0,.int .i64 2,.int .i64 n2,.int .i64 n4,.int .i64 0,.int .i64 0,.int .i64 0,.int .i64 0,.int .i64 0,.int .i64 0,.slice xo xm xc,.int .i64 c] T5.out;have BF:=Lib.hid (below_setCells (B:=w.heap.size) (g:=w.heap.size) B5.out (Nat.le_refl _) [.int .i64 x0,.int .i64 2,.int .i64 n2,.int .i64 n4,.int .i64 0,.int .i64 0,.int .i64 0,.int .i64 0,.int .i64 0,.int .i64 0,.slice xo xm xc,.int .i64 c] 0);have XF:=Lib.hid ((HXQ.out.later HB5.out).setCells (g:=w.heap.size) (fun b o s h=>by have:=HXB.out b o s h;omega) [.int .i64 x0,.int .i64 2,.int .i64 n2,.int .i64 n4,.int .i64 0,.int .i64 0,.int .i64 0,.int .i64 0,.int .i64 0,.int .i64 0,.slice xo xm xc,.int .i64 c] 0 _);generalize w5.setCells w.heap.size 0 [.int .i64 x0,.int .i64 2,.int .i64 n2,.int .i64 n4,.int .i64 0,.int .i64 0,.int .i64 0,.int .i64 0,.int .i64 0,.int .i64 0,.slice xo xm xc,.int .i64 c]=W9 at *;have y0:=RG 0 _ rfl;have y1:=RG 1 _ rfl;have y2:=RG 2 _ rfl;have y3:=RG 3 _ rfl;have y4:=RG 4 _ rfl;have y5:=RG 5 _ rfl;have y6:=RG 6 _ rfl;have y7:=RG 7 _ rfl;have y8:=RG 8 _ rfl;have y9:=RG 9 _ rfl;have y10:=RG 10 _ rfl;have y11:=RG 11 _ rfl;clear RG))
          refine bodyPost_ret (v:=.tuple #[(rdecN zs).val (.slice xo xm xc),.int .i64 (rdecErr zs)]) ?_ rfl ⟨_,_,_,rfl,by rw [G3.out,HRX.out];exact XF.out,BF.out⟩
          rw [G2.out,G3.out,HRN.out,results_cell_tmp rfl]
          go_simp
          try rfl
        · subst h1
          have G2:=Lib.hid h2
          have G3:=Lib.hid h3
          clear h2 h3
          go_wp2_with (first
            | (go_at_call 51;refine (CN.out _ (by exact BR.out) _ _ (by decide) (by decide) (by decide)).mono ?_;rintro e w' ⟨rfl,rfl⟩;rw [show leN zs (Int.toNat 18) (Int.toNat 2)=c from HDC.out])
            | (go_at_call 55;refine (CE.out _ (by first | exact Below.refl _ _ | exact Below.refl _ _)).mono ?_;rintro e w5 ⟨v5,rfl,hf5,hb5⟩;have k1:=fresh_str hf5;have k2:=str_bytes (cap:=cap) (HB.out.later (BQ.out.trans (hb5.mono BQ.out.size)));have T5:=Lib.hid (HTH.out w5 (NQ.out.1.trans (hb5.mono NQ.out.1.size)));have B5:=Lib.hid (BQ.out.trans (hb5.mono BQ.out.size));have HB5:=Lib.hid hb5;have u0:=cell_later hb5 c0;have u1:=cell_later hb5 c1;have u2:=cell_later hb5 c2;have u3:=cell_later hb5 c3;have u4:=cell_later hb5 c4;have u5:=cell_later hb5 c5;have u6:=cell_later hb5 c6;have u7:=cell_later hb5 c7;have u8:=cell_later hb5 c8;have u9:=cell_later hb5 c9;have u10:=cell_later hb5 c10;have u11:=cell_later hb5 c11;clear hf5 hb5)
            | (refine wpList_store_mid rfl 68 (.tmp 2) (.tmp 86) rfl w.heap.size 0 (List.toArray [.int .i64 0,.int .i64 0,.int .i64 0,.int .i64 0,.int .i64 0,.int .i64 0,.int .i64 0,.int .i64 0,.int .i64 0,.int .i64 0,.slice none 0 0,.int .i64 0]) rfl rfl T5.out (by kernel_rfl) (all_oneCell_toArray (by intro v hv;simp only [List.mem_cons,List.mem_nil_iff,or_false] at hv;rcases hv with rfl | rfl | rfl | rfl | rfl | rfl | rfl | rfl | rfl | rfl | rfl | rfl <;> rfl)) ?_;have RG:=World.rangeAt_setCells_same w5 w.heap.size 0 [.int .i64 0,.int .i64 0,.int .i64 0,.int .i64 0,.int .i64 0,.int .i64 0,.int .i64 0,.int .i64 0,.int .i64 0,.int .i64 0,.slice none 0 0,.int .i64 0] T5.out;have BF:=Lib.hid (below_setCells (B:=w.heap.size) (g:=w.heap.size) B5.out (Nat.le_refl _) [.int .i64 0,.int .i64 0,.int .i64 0,.int .i64 0,.int .i64 0,.int .i64 0,.int .i64 0,.int .i64 0,.int .i64 0,.int .i64 0,.slice none 0 0,.int .i64 0] 0);generalize w5.setCells w.heap.size 0 [.int .i64 0,.int .i64 0,.int .i64 0,.int .i64 0,.int .i64 0,.int .i64 0,.int .i64 0,.int .i64 0,.int .i64 0,.int .i64 0,.slice none 0 0,.int .i64 0]=W9 at *;have y0:=RG 0 _ rfl;have y1:=RG 1 _ rfl;have y2:=RG 2 _ rfl;have y3:=RG 3 _ rfl;have y4:=RG 4 _ rfl;have y5:=RG 5 _ rfl;have y6:=RG 6 _ rfl;have y7:=RG 7 _ rfl;have y8:=RG 8 _ rfl;have y9:=RG 9 _ rfl;have y10:=RG 10 _ rfl;have y11:=RG 11 _ rfl;clear RG))
          refine bodyPost_ret (v:=.tuple #[(rdecN zs).val (.slice none 0 0),.int .i64 (rdecErr zs)]) ?_ rfl ⟨none,0,0,rfl,by rw [G3.out];exact XIs.nil _,BF.out⟩
          rw [G2.out,G3.out,results_cell_tmp rfl]
          unfold noNode PNode.val
          go_simp
          try rfl
theorem rdec_any (ao:Option Addr) (len cap:Nat) (zs:List Int) (w:World) (hA:Arg w ao len cap zs) :
    Calls Tryz.prog 25 #[.slice ao len cap] w fun e w'=>∃ xo m xc,e=.returned (.tuple #[(rdecN zs).val (.slice xo m xc),.int .i64 (rdecErr zs)])∧XIs w' xo m (rdecN zs).x∧Below w.heap.size w w':=by
  by_cases h32:len=32
  · subst h32
    by_cases hf:zs.getD 1 0=2
    · exact rdec_new ao cap zs w hA hf
    · exact rdec_old ao cap zs w hA hf
  · have hl:zs.length≠32:=by rw [hA.1.1];exact h32
    have hn:isNodeR zs=false:=by unfold isNodeR;rw [decide_eq_false hl];rfl
    have h1:rdecN zs=noNode:=by unfold rdecN;rw [hn];rfl
    have h2:rdecErr zs=2:=by unfold rdecErr;rw [hn];rfl
    rw [h1,h2]
    exact (rdec_no ao len cap zs w hA h32).mono fun e w' h=>⟨none,0,0,h.1,XIs.nil _,h.2⟩
end Go.Proofs.YtcefmpnijjcekaaGreatDoor
namespace Go.Proofs.YtcefmpnijjcekaaGreatDoor
open Go.RowKit
theorem leN_one (zs:List Int) (p:Nat):leN zs p 1=zs.getD p 0:=by
  show 0+zs.getD (p+0) 0 * 256^0=_
  rw [Nat.add_zero,show (256:Int)^0=1 from rfl]
  omega
theorem pad_getD {zs:List Int} (h:zs.length=32) {k:Nat} (hk:k < 32):(pad64n zs).getD k 0=zs.getD k 0:=by
  unfold pad64n
  rw [lay_eq _ _ _ (by show 0+_≤64;rw [List.length_take];omega)]
  rw [List.take_zero,List.nil_append,List.take_of_length_le (by omega),List.getD_eq_getElem?_getD,List.getElem?_append_left (by omega),← List.getD_eq_getElem?_getD]
theorem getOut_pad {zs:List Int} (h:zs.length=32) (p k:Nat) (hp:p+k≤32) (hk:1≤k∧k≤4):getOut (pad64n zs) (p:Int) (k:Int)=leN zs p k:=by
  unfold getOut
  rw [pad64n_length]
  have e:fErr 64 (p:Int) (k:Int)=0:=by
    unfold fErr
    rw [if_pos rfl]
    split <;> omega
  rw [if_pos e]
  exact leN_of_eq k (fun j hj=>pad_getD h (by simp only [Int.toNat_natCast];omega))
theorem bk1 {x:Int} (h:0≤x∧x≤255):x / 256^0%256=x:=by rw [show (256:Int)^0=1 from rfl];omega
theorem bk2 {x:Int} (h:0≤x∧x≤65535):0+x / 256^0%256 * 256^0+x / 256^1%256 * 256^1=x:=by rw [show (256:Int)^0=1 from rfl,show (256:Int)^1=256 from rfl];omega
theorem slots_bytes (n:PNode) (x:List PX) (R:List Int):rSlots (nodeH n ++ (slotB x ++ R))=[⟨slotI x 0 / 256^0%256,0+slotI x 1 / 256^0%256 * 256^0+slotI x 1 / 256^1%256 * 256^1,slotI x 2 / 256^0%256⟩,⟨slotI x 3 / 256^0%256,0+slotI x 4 / 256^0%256 * 256^0+slotI x 4 / 256^1%256 * 256^1,slotI x 5 / 256^0%256⟩,⟨slotI x 6 / 256^0%256,0+slotI x 7 / 256^0%256 * 256^0+slotI x 7 / 256^1%256 * 256^1,slotI x 8 / 256^0%256⟩]:=rfl
theorem slots_back {n:PNode} (hf:n.f=2) (h3:n.x.length≤3) (hs:∀ x ∈ n.x,smallX x):rSlots (node32 n)=n.x ++ List.replicate (3 - n.x.length) noX:=by
  have e:∃ R,node32 n=nodeH n ++ (slotB n.x ++ R):=by
    unfold node32 node28
    rw [if_pos hf,pad_slots n h3]
    unfold pad
    simp only [List.append_assoc]
    exact ⟨_,rfl⟩
  obtain ⟨R,e⟩:=e
  rw [e,slots_bytes]
  obtain ⟨s0,s1,s2,s3,s4,s5,s6,s7,s8⟩:=slot_fits n.x h3 hs
  rw [bk1 s0,bk2 s1,bk1 s2,bk1 s3,bk2 s4,bk1 s5,bk1 s6,bk2 s7,bk1 s8]
  clear e s0 s1 s2 s3 s4 s5 s6 s7 s8 hs
  generalize n.x=l at *
  match l,h3 with
  | [],_=>rfl
  | [a],_=>rfl
  | [a,b],_=>rfl
  | [a,b,c],_=>rfl
  | _::_::_::_::_,h=>exact absurd h (by simp)
theorem sound_mem:∀ (l prev:List PX) (e b:Int),soundFrom prev e b l=true→∀ x ∈ l,runOk x.f x.c=true∧59≤x.f
  | [],_,_,_,_,x,hx=>by cases hx
  | y::r,prev,e,b,h,x,hx=>by
    unfold soundFrom okX at h
    simp only [Bool.and_eq_true,decide_eq_true_eq] at h
    rcases List.mem_cons.1 hx with rfl | hx
    · exact ⟨h.1.1,h.1.2.1⟩
    · exact sound_mem r _ _ _ h.2.2 x hx
theorem sound_two {n:PNode} (h:n.sound=true) (hf:n.f=2):n.x.length≤3∧∀ x ∈ n.x,x≠noX∧fixX x=x:=by
  rcases sound_f h with rfl | ⟨_,hm,_⟩
  · exact absurd hf (by decide)
  · unfold PNode.mapOk at hm
    rw [hf,if_neg (by decide),if_pos rfl] at hm
    simp only [Bool.and_eq_true] at hm
    have hx:=hm.2.1
    unfold soundXs at hx
    simp only [Bool.and_eq_true,decide_eq_true_eq] at hx
    refine ⟨hx.1,fun x hm'=>?_⟩
    have h:=sound_mem n.x [] 0 0 hx.2 x hm'
    refine ⟨fun e=>?_,?_⟩
    · rw [e] at h
      exact absurd h.2 (by decide)
    · unfold fixX partA partB
      rw [if_pos h.1,if_pos h.1]
theorem fil_back {X:List PX} {m:Nat} (h:∀ x ∈ X,x≠noX∧fixX x=x):rFil (X ++ List.replicate m noX)=X∧gotX (X ++ List.replicate m noX)=X:=by
  constructor
  · unfold rFil
    rw [List.filter_append,List.filter_eq_self.2 (fun x hx=>by simp [(h x hx).1]),List.filter_eq_nil_iff.2 (fun x hx=>by rw [List.eq_of_mem_replicate hx];simp),List.append_nil]
  · unfold gotX
    have e:∀ (X:List PX),(∀ x ∈ X,x≠noX∧fixX x=x)→((X ++ List.replicate m noX).takeWhile fun x=>!decide (x=noX)).map fixX=X:=by
      intro X
      induction X with
      | nil=>
        intro _
        cases m with
        | zero=>rfl
        | succ m=>rfl
      | cons a r ih=>
        intro h
        have ha:=h a (by simp)
        rw [List.cons_append,List.takeWhile_cons]
        rw [if_pos (by simp [ha.1]),List.map_cons,ha.2,ih (fun x hx=>h x (by simp [hx]))]
    exact e X h
theorem got_headN {zs:List Int} (h:zs.length=32):gotV (pad64n zs) headPs9 (fun _=>0) 1=zs.getD 1 0:=by
  show getOut (pad64n zs) ((1:Nat):Int) ((1:Nat):Int)=_
  rw [getOut_pad h 1 1 (by decide) (by decide),leN_one]
theorem got_one {zs:List Int} (h:zs.length=32) (hf:zs.getD 1 0=1):gotN zs=rNode zs:=by
  have g:∀ (p k:Nat),p+k≤32→1≤k∧k≤4→getOut (pad64n zs) (p:Int) (k:Int)=leN zs p k:=fun p k h1 h2=>getOut_pad h p k h1 h2
  unfold gotN readN readV
  rw [got_headN h,hf,show bodyPs 1=oldPs from rfl]
  unfold rNode
  rw [if_neg (by rw [hf];decide),← leN_one zs 0,← leN_one zs 1]
  rw [← g 0 1 (by decide) (by decide),← g 1 1 (by decide) (by decide),← g 2 2 (by decide) (by decide),← g 4 2 (by decide) (by decide),← g 6 2 (by decide) (by decide),← g 8 2 (by decide) (by decide),← g 10 2 (by decide) (by decide),← g 12 2 (by decide) (by decide),← g 14 2 (by decide) (by decide),← g 16 2 (by decide) (by decide)]
  rfl
theorem got_two {zs:List Int} (h:zs.length=32) (hf:zs.getD 1 0=2):gotN zs=⟨zs.getD 0 0,2,leN zs 2 2,leN zs 4 2,0,0,0,0,0,0,gotX (rSlots zs),leN zs 18 2⟩:=by
  have g:∀ (p k:Nat),p+k≤32→1≤k∧k≤4→getOut (pad64n zs) (p:Int) (k:Int)=leN zs p k:=fun p k h1 h2=>getOut_pad h p k h1 h2
  unfold gotN readN readV
  rw [got_headN h,hf,show bodyPs 2=newPs from rfl]
  unfold rSlots
  rw [show (2:Int)=zs.getD 1 0 from hf.symm]
  rw [← leN_one zs 0,← leN_one zs 1,← leN_one zs 6,← leN_one zs 9,← leN_one zs 10,← leN_one zs 13,← leN_one zs 14,← leN_one zs 17]
  rw [← g 0 1 (by decide) (by decide),← g 1 1 (by decide) (by decide),← g 2 2 (by decide) (by decide),← g 4 2 (by decide) (by decide),← g 6 1 (by decide) (by decide),← g 7 2 (by decide) (by decide),← g 9 1 (by decide) (by decide),← g 10 1 (by decide) (by decide),← g 11 2 (by decide) (by decide),← g 13 1 (by decide) (by decide),← g 14 1 (by decide) (by decide),← g 15 2 (by decide) (by decide),← g 17 1 (by decide) (by decide),← g 18 2 (by decide) (by decide)]
  rfl
theorem got_no {zs:List Int} (h:zs.length=32) (h1:zs.getD 1 0≠1) (h2:zs.getD 1 0≠2):gotN zs=⟨zs.getD 0 0,zs.getD 1 0,leN zs 2 2,leN zs 4 2,0,0,0,0,0,0,[],0⟩:=by
  have g:∀ (p k:Nat),p+k≤32→1≤k∧k≤4→getOut (pad64n zs) (p:Int) (k:Int)=leN zs p k:=fun p k h1 h2=>getOut_pad h p k h1 h2
  have e:bodyPs (zs.getD 1 0)=[]:=by unfold bodyPs;rw [if_neg h1,if_neg h2]
  unfold gotN readN readV
  rw [got_headN h,e]
  rw [← leN_one zs 0,← leN_one zs 1]
  rw [← g 0 1 (by decide) (by decide),← g 1 1 (by decide) (by decide),← g 2 2 (by decide) (by decide),← g 4 2 (by decide) (by decide)]
  rfl
theorem no_bytes {zs:List Int} (h:node32 noNode=zs):∃ S,zs=List.replicate 28 0 ++ S:=⟨_,by rw [← h];rfl⟩
theorem sound_other {n:PNode} (h:n.sound=true) (h1:n.f≠1) (h2:n.f≠2):n=noNode:=by
  rcases sound_f h with h | ⟨_,_,hf | hf⟩
  · exact h
  · exact absurd hf h1
  · exact absurd hf h2
theorem got32 {zs:List Int} (h:node32 (gotN zs)=zs):zs.length=32:=by
  have h3:(gotN zs).x.length≤3:=by
    unfold gotN readN gotX
    simp only [List.length_map]
    exact (List.takeWhile_sublist _).length_le
  rw [← h]
  unfold node32
  rw [List.length_append,node28_length h3,leB_length]
theorem alike {zs:List Int} (hz:∀ z ∈ zs,0≤z∧z≤255) (h32:zs.length=32):((gotN zs).sound=true∧node32 (gotN zs)=zs ↔ (rNode zs).sound=true∧node32 (rNode zs)=zs)∧((gotN zs).sound=true∧node32 (gotN zs)=zs→gotN zs=rNode zs):=by
  by_cases h1:zs.getD 1 0=1
  · rw [got_one h32 h1]
    exact ⟨Iff.rfl,fun _=>rfl⟩
  · by_cases h2:zs.getD 1 0=2
    · have hg:=got_two h32 h2
      have hr:rNode zs=⟨zs.getD 0 0,2,leN zs 2 2,leN zs 4 2,0,0,0,0,0,0,rFil (rSlots zs),leN zs 18 2⟩:=by unfold rNode;rw [if_pos h2]
      have main:∀ n:PNode,n.f=2→n.small→n.sound=true→node32 n=zs→rFil (rSlots zs)=n.x∧gotX (rSlots zs)=n.x:=fun n hf hn hs he=>by
        obtain ⟨h3,hx⟩:=sound_two hs hf
        have hb:=slots_back hf h3 (fun x hx=>hn.2.2.2.2.2.2.2.2.2.2.2 x hx)
        rw [he] at hb
        rw [hb]
        exact fil_back hx
      have a1:(gotN zs).sound=true∧node32 (gotN zs)=zs→gotN zs=rNode zs:=fun h=>by
        have m:=main (gotN zs) (by rw [hg]) (readN_small (pad64n_bytes hz)) h.1 h.2
        rw [hg,hr,m.1,hg]
      have a2:(rNode zs).sound=true∧node32 (rNode zs)=zs→gotN zs=rNode zs:=fun h=>by
        have m:=main (rNode zs) (by rw [hr]) (rnode_small hz h32) h.1 h.2
        rw [hg,hr,m.2,hr]
      exact ⟨⟨fun h=>by rw [← a1 h];exact h,fun h=>by rw [a2 h];exact h⟩,a1⟩
    · have hg:=got_no h32 h1 h2
      have hr:rNode zs=⟨zs.getD 0 0,zs.getD 1 0,leN zs 2 2,leN zs 4 2,leN zs 6 2,leN zs 8 2,leN zs 10 2,leN zs 12 2,leN zs 14 2,leN zs 16 2,[],0⟩:=by unfold rNode;rw [if_neg h2]
      have main:∀ S,zs=List.replicate 28 0 ++ S→gotN zs=noNode∧rNode zs=noNode:=fun S hS=>by
        rw [hg,hr,hS]
        exact ⟨rfl,rfl⟩
      have a1:(gotN zs).sound=true∧node32 (gotN zs)=zs→gotN zs=rNode zs:=fun h=>by
        have e:=sound_other h.1 (by rw [hg];exact h1) (by rw [hg];exact h2)
        have h2':=h.2
        rw [e] at h2'
        obtain ⟨S,hS⟩:=no_bytes h2'
        have m:=main S hS
        rw [m.1,m.2]
      have a2:(rNode zs).sound=true∧node32 (rNode zs)=zs→gotN zs=rNode zs:=fun h=>by
        have e:=sound_other h.1 (by rw [hr];exact h1) (by rw [hr];exact h2)
        have h2':=h.2
        rw [e] at h2'
        obtain ⟨S,hS⟩:=no_bytes h2'
        have m:=main S hS
        rw [m.1,m.2]
      exact ⟨⟨fun h=>by rw [← a1 h];exact h,fun h=>by rw [a2 h];exact h⟩,a1⟩
theorem rdec_eq {zs:List Int} (hz:∀ z ∈ zs,0≤z∧z≤255):rdecN zs=decN zs∧rdecErr zs=decErr zs:=by
  by_cases h32:zs.length=32
  · have ha:=alike hz h32
    have hi:isNodeR zs=isNode zs:=by
      rw [Bool.eq_iff_iff]
      unfold isNodeR isNode
      rw [decide_eq_true h32,Bool.true_and]
      simp only [Bool.and_eq_true,decide_eq_true_eq]
      exact ha.1.symm
    unfold rdecN decN rdecErr decErr
    rw [hi]
    refine ⟨?_,rfl⟩
    cases hb:isNode zs with
    | false=>rfl
    | true=>
      unfold isNode at hb
      simp only [Bool.and_eq_true,decide_eq_true_eq] at hb
      rw [if_pos rfl,if_pos rfl]
      exact (ha.2 hb).symm
  · have h1:isNodeR zs=false:=by unfold isNodeR;rw [decide_eq_false h32];rfl
    have h2:isNode zs=false:=by
      rw [Bool.eq_false_iff]
      intro hb
      unfold isNode at hb
      simp only [Bool.and_eq_true,decide_eq_true_eq] at hb
      exact h32 (got32 hb.2)
    unfold rdecN decN rdecErr decErr
    rw [h1,h2]
    exact ⟨rfl,rfl⟩
end Go.Proofs.YtcefmpnijjcekaaGreatDoor
namespace Go.Proofs.YtcefmpnijjcekaaGreatDoor
open Go.RowKit
theorem iarg0 {w:World} {ao:Option Addr} {c:Nat} (h:ao=none→c=0):IArg w ao 0 c []:=⟨⟨rfl,by decide,Or.inl rfl⟩,by simp,fun e=>⟨rfl,h e⟩,Nat.zero_le _⟩
set_option maxHeartbeats 800000 in
theorem clone0_any (ao:Option Addr) (cap:Nat) (w:World) (hA:IArg w ao 0 cap []) :
    Calls Tryz.prog 105 #[.slice ao 0 cap] w fun e w'=>∃ ko kc,e=.returned (.slice ko 0 kc)∧IArg w' ko 0 kc []∧Below w.heap.size w w':=by
  cases ao with
  | none=>
    obtain rfl:cap=0:=(hA.2.2.1 rfl).2
    have hnil:=fun (w:World)=>Lib.run_eql_slice_nil (P:=Tryz.prog) w 31 3 none 0 0 0 0 Tryz.underlying31
    clear hA
    go_enter Tryz.func105,Tryz.ntmps105
    go_wp2_with fail
    go_ret
    exact ⟨none,0,rfl,IArg.nil _,Below.refl _ _⟩
  | some ad=>
    refine (cloneI_any ad 0 cap [] w hA (by decide)).mono ?_
    rintro e w' ⟨v,rfl,ho,hb⟩
    obtain ⟨ko,kc,rfl,hi,_⟩:=fresh_of_ints (zs:=[]) ho (by simp) (by decide)
    exact ⟨ko,kc,rfl,hi,hb⟩
set_option maxHeartbeats 800000 in
theorem del0_any (ao:Option Addr) (cap:Nat) (f:Value) (w:World) :
    Calls Tryz.prog 104 #[.slice ao 0 cap,f] w fun e w'=>e=.returned (.slice ao 0 cap)∧w=w':=by
  have cI:Calls Tryz.prog 120 #[.slice ao 0 cap,f] w fun e w'=>e=.returned (.int .i64 (-1))∧w=w':=by
    go_enter Tryz.func120,Tryz.ntmps120
    go_wp2_with fail
    go_loop [8] (fun iv=>iv=.int .i64 0) (fun iv=>0)
    case atStart=>rfl
    case round=>
      subst hrel
      go_wp2_with fail
      go_ret
      exact ⟨rfl,rfl⟩
  go_enter Tryz.func104,Tryz.ntmps104
  go_wp2_with (go_at_call 120;refine cI.mono ?_;rintro e w2 ⟨rfl,rfl⟩)
  go_ret
  exact ⟨rfl,rfl⟩
theorem markL_nil {zs:List Int} (up:Bool) (hl:zs.length=60) (hz:∀ z ∈ zs,0≤z∧z≤255):markL zs up []=zs:=by
  unfold markL runsOf
  exact markP_nil up hl hz
set_option maxRecDepth 100000 in
set_option maxHeartbeats 3200000 in
theorem choice0_any (fo:Option Addr) (fc:Nat) (f:List Int) (oo:Option Addr) (oc n hi:Nat) (w:World) (hA:Arg w fo 60 fc f) (hO:IArg w oo 0 oc []) (h0:59≤hi) (h1:hi≤480) (hn:n≤1000) :
    Calls Tryz.prog 66 #[.slice fo 60 fc,.slice oo 0 oc,.int .i64 n,.int .i64 hi] w (PickDone w.heap.size w f n hi):=by
  have hb2:∀ o o2,Below w.heap.size w ((w.alloc o).alloc o2):=fun o o2=>((Below.refl _ _).alloc (Nat.le_refl _) _).alloc (by simp) _
  have HCL:Hid (∀ W,Below w.heap.size w W→Calls Tryz.prog 105 #[.slice oo 0 oc] W fun e w'=>∃ ko kc,e=.returned (.slice ko 0 kc)∧IArg w' ko 0 kc []∧Below W.heap.size W w'):=Lib.hid (fun W hW=>clone0_any oo oc W (hO.later hW))
  have HMK:Hid (∀ W q ko kc,Below w.heap.size w W→W.cell? ⟨q,0,none⟩=some (.slice ko 0 kc)→IArg W ko 0 kc []→Calls Tryz.prog 34 #[.slice fo 60 fc,.bool true,.slice (some ⟨q,0,none⟩) 1 1] W (Gives W.heap.size W f)):=Lib.hid (fun W q ko kc hW hc hK=>by
    have hx:=imark_any fo fc f true q 0 1 1 [[]] W (hA.later hW) rfl (fun j zs hj=>by
      match j,hj with
      | 0,hj=>cases Option.some.inj hj;exact ⟨ko,0,kc,hc,hK⟩
      | j+1,hj=>simp at hj) (by decide) (by decide) (by intro x hx;simp at hx)
    rw [show ([[]]:List (List Int)).flatten=[] from rfl,markL_nil true hA.1.1 hA.1.2.2.1] at hx
    exact hx)
  obtain ⟨E,hE⟩:∃ E,pickE f n hi=E:=⟨_,rfl⟩
  obtain ⟨L,hL⟩:∃ L,(if pickE f n hi=0 then pickL f n hi else [])=L:=⟨_,rfl⟩
  have HPK:Hid (∀ W g o k,Arg W (some ⟨g,o,none⟩) 60 k f→Calls Tryz.prog 30 #[.slice (some ⟨g,o,none⟩) 60 k,.int .i64 n,.int .i64 hi] W fun e w'=>∃ v,e=.returned (.tuple #[v,.int .i64 E])∧FreshI w' W.heap.size v L∧Below W.heap.size W w'):=Lib.hid (fun W g o k hf=>by
    have hx:=ipick_any (some ⟨g,o,none⟩) k f n hi W hf h0 h1 (by omega)
    unfold PickDone at hx
    rw [hL,hE] at hx
    exact hx)
  have HP:Hid (∀ (B:Nat) (W w':World) v,FreshI w' B v L→Below B W w'→PickDone B W f n hi (.returned (.tuple #[v,.int .i64 E])) w'):=Lib.hid (fun B W w' v h1 h2=>⟨v,by rw [hE],by rw [hL];exact h1,h2⟩)
  have HLE:Hid (E≠0→L=[]):=Lib.hid (fun h=>by rw [← hL,if_neg (by rw [hE];exact h)])
  have HF60:Hid (f.length=60):=Lib.hid hA.1.1
  have HF0:Hid (f≠[]):=Lib.hid (fun h=>by have:=hA.1.1;rw [h] at this;cases this)
  have HLB:Hid (L.length≤1000):=Lib.hid (by
    rw [← hL]
    split
    · rename_i hp
      obtain ⟨rs,r1,r2,r3⟩:=pick_runs f n hi hp hA.1.1 h0 h1
      omega
    · simp)
  clear hA hO hE hL
  have hH:∀ W,Below ((w.alloc (.cells #[.slice fo 60 fc] 44)).alloc (.cells #[.int .i64 hi] 3)).heap.size ((w.alloc (.cells #[.slice fo 60 fc] 44)).alloc (.cells #[.int .i64 hi] 3)) W→W.cell? ⟨w.heap.size,0,none⟩=some (.slice fo 60 fc)∧W.cell? ⟨w.heap.size+1,0,none⟩=some (.int .i64 (hi:Int)):=fun W hW=>by
    constructor
    · rw [hW.cell (p:=⟨w.heap.size,0,none⟩) (by simp;omega)];simp
    · rw [hW.cell (p:=⟨w.heap.size+1,0,none⟩) (by simp)]
      rw [show w.heap.size+1=(w.alloc (.cells #[.slice fo 60 fc] 44)).heap.size by simp,World.cell?_alloc_new]
      rfl
  have HBB:=Lib.hid (hb2 (.cells #[.slice fo 60 fc] 44) (.cells #[.int .i64 hi] 3))
  have HHH:=Lib.hid hH
  have hmn:min (n:Int) 0=0:=by omega
  clear hH hb2
  go_enter Tryz.func66,Tryz.ntmps66
  go_wp2_with (first
    | (go_at_call 105;refine (HCL.out _ HBB.out).mono ?_;rintro e w2 ⟨ko,kc,rfl,hk2,hb2⟩;have HK2:=Lib.hid hk2;have HC2:=Lib.hid hb2;clear hk2 hb2)
    | (go_at_call 104;refine (del0_any _ _ _ _).mono ?_;rintro e w' ⟨rfl,rfl⟩))
  have HW2:Hid (Below w.heap.size w w2):=Lib.hid (HBB.out.trans (HC2.out.mono HBB.out.size))
  have HH:Hid (∀ W,Below w2.heap.size w2 W→W.cell? ⟨w.heap.size,0,none⟩=some (.slice fo 60 fc)∧W.cell? ⟨w.heap.size+1,0,none⟩=some (.int .i64 (hi:Int))):=Lib.hid (fun W hW=>HHH.out W (HC2.out.trans (hW.mono HC2.out.size)))
  have hwr:IntKind.i64.wrap ((n:Int) - 0)=(n:Int):=by rw [IntKind.wrap_i64];omega
  clear HHH HBB HC2 HCL
  refine wp_region_held_drew (S:=fun W=>W.cell? ⟨w.heap.size,0,none⟩=some (.slice fo 60 fc)∧W.cell? ⟨w.heap.size+1,0,none⟩=some (.int .i64 (hi:Int))) (by kernel_rfl) (HH.out _ (Below.refl _ _).drew) (fun hHeld=>?_)
  refine wpAnyH_take (i:=0) (oi:=⟨some 24,_,_,_,_,_⟩) (v:=.slice fo 60 fc) rfl (by kernel_rfl) (by kernel_rfl) (by kernel_rfl) (fun _ _ _ h=>h) (Or.inl ⟨by kernel_rfl,by intro w hSw;obtain ⟨s1,s2⟩:=hSw;go_simp⟩) (by assumption) ?_
  try simp only [Act.put,List.setIfInBounds_toArray,List.set_cons_zero,List.set_cons_succ]
  refine wpAnyH_take (i:=1) (oi:=⟨some 25,_,_,_,_,_⟩) (v:=.slice ko 0 kc) rfl (by kernel_rfl) (by kernel_rfl) (by kernel_rfl) (fun _ _ _ h=>h) (Or.inl ⟨by kernel_rfl,fun w _=>rfl⟩) (by assumption) ?_
  try simp only [Act.put,List.setIfInBounds_toArray,List.set_cons_zero,List.set_cons_succ]
  refine wpAnyH_take (i:=4) (oi:=⟨some 28,_,_,_,_,_⟩) (v:=.int .i64 n) rfl (by kernel_rfl) (by kernel_rfl) (by kernel_rfl) (fun _ _ _ h=>h) (Or.inl ⟨by kernel_rfl,fun w _=>rfl⟩) (by assumption) ?_
  try simp only [Act.put,List.setIfInBounds_toArray,List.set_cons_zero,List.set_cons_succ]
  refine wpAnyH_take (i:=5) (oi:=⟨some 29,_,_,_,_,_⟩) (v:=.slice ko 0 kc) rfl (by kernel_rfl) (by kernel_rfl) (by kernel_rfl) (fun _ _ _ h=>h) (Or.inl ⟨by kernel_rfl,fun w _=>rfl⟩) (by assumption) ?_
  try simp only [Act.put,List.setIfInBounds_toArray,List.set_cons_zero,List.set_cons_succ]
  refine wpAnyH_take (i:=6) (oi:=⟨some 30,_,_,_,_,_⟩) (v:=.int .i64 0) rfl (by kernel_rfl) (by kernel_rfl) (by kernel_rfl) (fun _ _ _ h=>h) (Or.inl ⟨by kernel_rfl,by intro w _;go_simp;(try omega)⟩) (by assumption) ?_
  try simp only [Act.put,List.setIfInBounds_toArray,List.set_cons_zero,List.set_cons_succ]
  refine wpAnyH_take (i:=7) (oi:=⟨some 31,_,_,_,_,_⟩) (v:=.int .i64 n) rfl (by kernel_rfl) (by kernel_rfl) (by kernel_rfl) (fun _ _ _ h=>h) (Or.inl ⟨by kernel_rfl,by intro w _;go_simp;(try assumption)⟩) (by assumption) ?_
  try simp only [Act.put,List.setIfInBounds_toArray,List.set_cons_zero,List.set_cons_succ]
  refine wpAnyH_take (i:=8) (oi:=⟨some 32,_,_,_,_,_⟩) (v:=.int .i64 hi) rfl (by kernel_rfl) (by kernel_rfl) (by kernel_rfl) (fun _ _ _ h=>h) (Or.inl ⟨by kernel_rfl,by intro w hSw;obtain ⟨s1,s2⟩:=hSw;go_simp⟩) (by assumption) ?_
  try simp only [Act.put,List.setIfInBounds_toArray,List.set_cons_zero,List.set_cons_succ]
  refine wpAnyH_ready (rs:=[2]) (by kernel_rfl) (by simp) ?_
  refine AllReadyH.cons (o:=⟨some 26,_,_,_,_,_⟩) rfl (fun K hK=>?_) AllReadyH.nil
  go_simp
  obtain ⟨W3,hW3⟩:∃ W3,(w2.alloc (.cells #[.slice ko 0 kc] 31)).drew=W3:=⟨_,rfl⟩
  have HB3:Hid (Below w2.heap.size w2 W3):=Lib.hid (by rw [← hW3];exact ((Below.refl _ _).alloc (Nat.le_refl _) _).drew)
  have HM3:=Lib.hid (HMK.out W3 w2.heap.size ko kc (HW2.out.trans (HB3.out.mono HW2.out.size)) (by rw [← hW3];show (w2.alloc _).cell? _=_;simp) (HK2.out.later HB3.out))
  rw [hW3]
  clear hW3
  refine hK.out _ _ ?_ (fun hHeld1=>?_)
  · exact (HH.out _ HB3.out)
  clear hK K
  try simp only [Act.put,List.setIfInBounds_toArray,List.set_cons_zero,List.set_cons_succ]
  refine wpAnyH_ready (rs:=[3]) (by kernel_rfl) (by simp) ?_
  refine AllReadyH.cons (o:=⟨some 27,_,_,_,_,_⟩) rfl (fun K hK=>?_) AllReadyH.nil
  go_simp
  go_at_call 34
  refine HM3.out.mono ?_
  rintro e w4 ⟨v4,rfl,hf4,hb4⟩
  obtain ⟨g4,o4,k4,rfl,hA4,_⟩:=fresh_slice hf4 HF0.out
  rw [HF60.out] at hA4 ⊢
  have HA4:=Lib.hid hA4
  have HB4:=Lib.hid (HB3.out.trans (hb4.mono HB3.out.size))
  clear hf4 hb4 hA4
  refine hK.out _ _ ?_ (fun hHeld2=>?_)
  · exact (HH.out _ HB4.out)
  clear hK K
  try simp only [Act.put,List.setIfInBounds_toArray,List.set_cons_zero,List.set_cons_succ]
  refine wpAnyH_ready (rs:=[9]) (by kernel_rfl) (by simp) ?_
  refine AllReadyH.cons (o:=⟨some 33,_,_,_,_,_⟩) rfl (fun K hK=>?_) AllReadyH.nil
  go_simp
  go_at_call 30
  refine (HPK.out _ g4 o4 k4 HA4.out).mono ?_
  rintro e w5 ⟨v5,rfl,hf5,hb5⟩
  have HF5:=Lib.hid (hf5.mono (Nat.le_trans HW2.out.size HB4.out.size))
  obtain ⟨va,vc,rfl,hva,_⟩:=hf5
  have HVA:=Lib.hid hva
  have HB5:=Lib.hid (HB4.out.trans (hb5.mono HB4.out.size))
  clear hb5 hva
  refine hK.out _ _ ?_ (fun hHeld3=>?_)
  · exact (HH.out _ HB5.out)
  clear hK K
  try simp only [Act.put,List.setIfInBounds_toArray,List.set_cons_zero,List.set_cons_succ]
  refine wpAnyH_take (i:=10) (oi:=⟨some 23,_,_,_,_,_⟩) (v:=.tuple #[.slice va L.length vc,.int .i64 E]) rfl (by kernel_rfl) (by kernel_rfl) (by kernel_rfl) (fun _ _ _ h=>h) (Or.inl ⟨by kernel_rfl,fun w _=>rfl⟩) (by assumption) ?_
  try simp only [Act.put,List.setIfInBounds_toArray,List.set_cons_zero,List.set_cons_succ]
  refine wpAnyH_take (i:=11) (oi:=⟨some 34,_,_,_,_,_⟩) (v:=.slice va L.length vc) rfl (by kernel_rfl) (by kernel_rfl) (by kernel_rfl) (fun _ _ _ h=>h) (Or.inl ⟨by kernel_rfl,by intro w _;go_simp;(try omega)⟩) (by assumption) ?_
  try simp only [Act.put,List.setIfInBounds_toArray,List.set_cons_zero,List.set_cons_succ]
  refine wpAnyH_take (i:=12) (oi:=⟨some 35,_,_,_,_,_⟩) (v:=.int .i64 E) rfl (by kernel_rfl) (by kernel_rfl) (by kernel_rfl) (fun _ _ _ h=>h) (Or.inl ⟨by kernel_rfl,by intro w _;go_simp;(try omega)⟩) (by assumption) ?_
  try simp only [Act.put,List.setIfInBounds_toArray,List.set_cons_zero,List.set_cons_succ]
  refine wpAnyH_take (i:=13) (oi:=⟨some 11,_,_,_,_,_⟩) (v:=.slice va L.length vc) rfl (by kernel_rfl) (by kernel_rfl) (by kernel_rfl) (fun _ _ _ h=>h) (Or.inl ⟨by kernel_rfl,fun w _=>rfl⟩) (by assumption) ?_
  try simp only [Act.put,List.setIfInBounds_toArray,List.set_cons_zero,List.set_cons_succ]
  refine wpAnyH_take (i:=14) (oi:=⟨some 12,_,_,_,_,_⟩) (v:=.int .i64 E) rfl (by kernel_rfl) (by kernel_rfl) (by kernel_rfl) (fun _ _ _ h=>h) (Or.inl ⟨by kernel_rfl,fun w _=>rfl⟩) (by assumption) ?_
  try simp only [Act.put,List.setIfInBounds_toArray,List.set_cons_zero,List.set_cons_succ]
  refine wpAnyH_done (by kernel_rfl) ?_ _
  have HLC:Hid (∀ (W:World),Below w5.heap.size w5 W→IArg W ko 0 kc []):=Lib.hid (fun W hW=>HK2.out.later (HB5.out.trans (hW.mono HB5.out.size)))
  have HW5:Hid (Below w.heap.size w w5):=Lib.hid (HW2.out.trans (HB5.out.mono HW2.out.size))
  by_cases hE0:E=0
  · subst hE0
    have cC:Calls Tryz.prog 78 #[.slice (some ⟨w5.heap.size,0,none⟩) 2 2] (w5.alloc (.cells #[.slice ko 0 kc,.slice va L.length vc] 31)) fun e w'=>∃ v,e=.returned v∧FreshI w' w5.heap.size v L∧Below w5.heap.size w5 w':=by
      refine (Concat_any w5.heap.size 0 2 2 [[],L] _ rfl (lists_two (HLC.out _ (Below.refl _ _)) HVA.out 31) (by have:=HLB.out;show 0+(L.length+0)≤10000;omega) (by decide)).mono ?_
      rintro e w6 ⟨v,rfl,ho,hb⟩
      have hz:∀ z ∈ L,I64 z:=HVA.out.2.1
      have e1:lenL [[],L]=L.length:=by show 0+(L.length+0)=_;omega
      rw [e1,show ([[],L]:List (List Int)).flatten=L by simp] at ho
      exact ⟨v,rfl,(fresh_of_ints ho hz (by have:=HLB.out;omega)).mono (by simp),((Below.refl _ _).alloc (Nat.le_refl _) _).trans (hb.mono (by simp))⟩
    have HC:=Lib.hid cC
    clear cC
    go_wp2_with (go_at_call 78;refine HC.out.mono ?_;rintro e w6 ⟨v,rfl,hf6,hb6⟩;have HF6:=Lib.hid (hf6.mono HW5.out.size);have HB6:=Lib.hid (HW5.out.trans (hb6.mono HW5.out.size));clear hf6 hb6)
    go_ret2
    exact HP.out _ _ _ _ HF6.out HB6.out
  · have hne:(E != 0)=true:=by simpa using hE0
    have HL0:=Lib.hid (HLE.out hE0)
    go_wp2_with fail
    go_ret2
    exact HP.out _ _ _ _ (by rw [HL0.out];exact FreshI.nil _ _) HW5.out
end Go.Proofs.YtcefmpnijjcekaaGreatDoor
