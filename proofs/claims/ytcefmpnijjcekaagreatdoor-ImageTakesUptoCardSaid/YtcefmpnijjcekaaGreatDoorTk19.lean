/- Proved here: what the document's own Decode (drydockref09) answers of any bytes. The conditions stand at each theorem. -/
import Derived.Test.YtcefmpnijjcekaaGreatDoorTk18
set_option linter.unusedVariables false
set_option linter.unusedSimpArgs false
namespace Go.Proofs.YtcefmpnijjcekaaGreatDoor
open Go.RowKit
theorem rways (zs:List Int) (h32:zs.length=32):((rNode zs).sound=true∧node32 (rNode zs)=zs∧rdecN zs=rNode zs∧rdecErr zs=0)∨((rNode zs).sound=true∧node32 (rNode zs)≠zs∧rdecN zs=noNode∧rdecErr zs=2)∨((rNode zs).sound=false∧rdecN zs=noNode∧rdecErr zs=2):=by
  unfold rdecN rdecErr isNodeR
  rw [decide_eq_true h32,Bool.true_and]
  cases hs:(rNode zs).sound with
  | false=>right;right;exact ⟨rfl,rfl,rfl⟩
  | true=>
    by_cases he:node32 (rNode zs)=zs
    · left;rw [decide_eq_true he];exact ⟨rfl,he,rfl,rfl⟩
    · right;left;rw [decide_eq_false he];exact ⟨rfl,he,rfl,rfl⟩
theorem rslots_small {zs:List Int} (hz:∀ z ∈ zs,0≤z∧z≤255) (h32:zs.length=32):∀ x ∈ rSlots zs,smallX x:=by
  have b:∀ k,k < 32→0≤zs.getD k 0∧zs.getD k 0≤255:=fun k hk=>hz _ (getD_mem (by omega))
  have l:∀ k,k+2≤32→0≤leN zs k 2∧leN zs k 2≤65535:=fun k hk=>by
    have h:=leN_bounds hz k 2 (by omega)
    have e:(256:Int)^2=65536:=rfl
    omega
  intro x hx
  unfold rSlots at hx
  simp only [List.mem_cons,List.mem_nil_iff,or_false] at hx
  unfold smallX smallR
  rcases hx with rfl | rfl | rfl
  · have h1:=b 6 (by decide);have h2:=l 7 (by decide);have h3:=b 9 (by decide);simp only;omega
  · have h1:=b 10 (by decide);have h2:=l 11 (by decide);have h3:=b 13 (by decide);simp only;omega
  · have h1:=b 14 (by decide);have h2:=l 15 (by decide);have h3:=b 17 (by decide);simp only;omega
theorem rnode_small {zs:List Int} (hz:∀ z ∈ zs,0≤z∧z≤255) (h32:zs.length=32):(rNode zs).small:=by
  have b:∀ k,k < 32→0≤zs.getD k 0∧zs.getD k 0≤65535:=fun k hk=>by have:=hz _ (getD_mem (l:=zs) (k:=k) (by omega));omega
  have l:∀ k,k+2≤32→0≤leN zs k 2∧leN zs k 2≤65535:=fun k hk=>by
    have h:=leN_bounds hz k 2 (by omega)
    have e:(256:Int)^2=65536:=rfl
    omega
  have z0:u16 0:=by unfold u16;decide
  unfold rNode
  split
  · exact ⟨b 0 (by decide),(show u16 2 by unfold u16;decide),l 2 (by decide),l 4 (by decide),z0,z0,z0,z0,z0,z0,l 18 (by decide),fun x hx=>rslots_small hz h32 x (List.mem_filter.1 hx).1⟩
  · exact ⟨b 0 (by decide),b 1 (by decide),l 2 (by decide),l 4 (by decide),l 6 (by decide),l 8 (by decide),l 10 (by decide),l 12 (by decide),l 14 (by decide),l 16 (by decide),z0,fun x hx=>by cases hx⟩
set_option maxRecDepth 100000 in
set_option maxHeartbeats 1600000 in
theorem rdec_no (ao:Option Addr) (len cap:Nat) (zs:List Int) (w:World) (hA:Arg w ao len cap zs) (h32:len≠32) :
    Calls Tryz.prog 25 #[.slice ao len cap] w fun e w'=>e=.returned (.tuple #[noNode.val (.slice none 0 0),.int .i64 2])∧Below w.heap.size w w':=by
  have hne:((len:Int) == 32)=false:=by simp;omega
  have hne':((len:Int) != 32)=true:=by simp;omega
  have B0:Hid (Below w.heap.size w (w.alloc (.cells #[.int .i64 0,.int .i64 0,.int .i64 0,.int .i64 0,.int .i64 0,.int .i64 0,.int .i64 0,.int .i64 0,.int .i64 0,.int .i64 0,.slice none 0 0,.int .i64 0] 68))):=Lib.hid ((Below.refl _ _).alloc (Nat.le_refl _) _)
  clear hA
  go_enter Tryz.func25,Tryz.ntmps25
  go_wp2_with fail
  refine bodyPost_ret (v:=.tuple #[noNode.val (.slice none 0 0),.int .i64 2]) ?_ rfl ⟨rfl,B0.out⟩
  rw [results_cell_tmp rfl]
  unfold noNode PNode.val
  go_simp
  try rfl
theorem node32_bytes (n:PNode) (hn:n.small):∀ z ∈ node32 n,0≤z∧z≤255:=by
  intro z hz
  unfold node32 node28 pad at hz
  rcases List.mem_append.1 hz with h | h
  · rcases List.mem_append.1 h with h | h
    · split at h
      · rcases List.mem_append.1 h with h | h
        · rcases List.mem_append.1 h with h | h
          · exact node_bytes n n.x z h
          · rw [List.eq_of_mem_replicate h];decide
        · exact leB_bytes _ _ z h
      · exact node_bytesP n z h
    · rw [List.eq_of_mem_replicate h];decide
  · exact leB_bytes _ _ z h
def oldV (zs:List Int) (a b c d:Int) (k:Nat) (o:Nat):Int:=if 4≤o∧o < 4+k then leN zs (6+2 * (o - 4)) 2 else headV a b c d o
set_option maxRecDepth 100000 in
set_option maxHeartbeats 6400000 in
theorem rdec_old (ao:Option Addr) (cap:Nat) (zs:List Int) (w:World) (hA:Arg w ao 32 cap zs) (hf:zs.getD 1 0≠2) :
    Calls Tryz.prog 25 #[.slice ao (32:Nat) cap] w fun e w'=>∃ xo m xc,e=.returned (.tuple #[(rdecN zs).val (.slice xo m xc),.int .i64 (rdecErr zs)])∧XIs w' xo m (rdecN zs).x∧Below w.heap.size w w':=by
  have hrn:rNode zs=⟨zs.getD 0 0,zs.getD 1 0,leN zs 2 2,leN zs 4 2,leN zs 6 2,leN zs 8 2,leN zs 10 2,leN zs 12 2,leN zs 14 2,leN zs 16 2,[],0⟩:=by unfold rNode;rw [if_neg hf]
  have hB:=hA.1
  have HB:=Lib.hid hB
  have h32:zs.length=32:=hB.1
  obtain ⟨g,off,rfl,hc⟩:=hB.2.2.2.resolve_left (by decide)
  have f0:=hc 0 (by decide)
  have f1:=hc 1 (by decide)
  rw [Nat.add_zero] at f0
  have b0:=hB.2.2.1 _ (getD_mem (l:=zs) (k:=0) (by omega))
  have b1:=hB.2.2.1 _ (getD_mem (l:=zs) (k:=1) (by omega))
  have HRW:=Lib.hid (rways zs h32)
  have HSM:=Lib.hid (rnode_small hB.2.2.1 h32)
  have HSX:=Lib.hid (rslots_small hB.2.2.1 h32)
  have HZ:=Lib.hid hB.2.2.1
  have H32:=Lib.hid h32
  have hcap:=hA.2.2.1
  have CN:=Lib.hid (fun (W:World) (hW:Below w.heap.size w W) (p k:Int) (h1:0≤p∧0≤k) (h2:k.toNat≤4) (h3:p.toNat+k.toNat≤32)=>num09 (cap:=cap) (pz:=p) (kz:=k) (hB.later hW) h2 h3 h1)
  obtain ⟨x0,HX0⟩:∃ x,Hid (zs.getD 0 0=x):=⟨_,Lib.hid rfl⟩
  obtain ⟨x1,HX1⟩:∃ x,Hid (zs.getD 1 0=x):=⟨_,Lib.hid rfl⟩
  obtain ⟨n2,HN2⟩:∃ x,Hid (leN zs 2 2=x):=⟨_,Lib.hid rfl⟩
  obtain ⟨n4,HN4⟩:∃ x,Hid (leN zs 4 2=x):=⟨_,Lib.hid rfl⟩
  rw [HX0.out] at f0 b0
  rw [HX1.out] at f1 b1 hf
  have w0:IntKind.i64.wrap x0=x0:=by rw [IntKind.wrap_i64];omega
  have w1:IntKind.i64.wrap x1=x1:=by rw [IntKind.wrap_i64];omega
  have hne':((32:Nat):Int)=32:=rfl
  have HTH:Hid (∀ W,Below (w.alloc (.cells #[.int .i64 0,.int .i64 0,.int .i64 0,.int .i64 0,.int .i64 0,.int .i64 0,.int .i64 0,.int .i64 0,.int .i64 0,.int .i64 0,.slice none 0 0,.int .i64 0] 68)).heap.size (w.alloc (.cells #[.int .i64 0,.int .i64 0,.int .i64 0,.int .i64 0,.int .i64 0,.int .i64 0,.int .i64 0,.int .i64 0,.int .i64 0,.int .i64 0,.slice none 0 0,.int .i64 0] 68)) W→W.there w.heap.size 0 12):=Lib.hid (fun W hW=>there_later hW rfl)
  have B1:Hid (Below w.heap.size w (w.alloc (.cells #[.int .i64 0,.int .i64 0,.int .i64 0,.int .i64 0,.int .i64 0,.int .i64 0,.int .i64 0,.int .i64 0,.int .i64 0,.int .i64 0,.slice none 0 0,.int .i64 0] 68))):=Lib.hid ((Below.refl _ _).alloc (Nat.le_refl _) _)
  have HK:Hid (∀ W,Below w.heap.size w W→W.cell? ⟨g,off,none⟩=some (.int .u8 x0)∧W.cell? ⟨g,off+1,none⟩=some (.int .u8 x1)∧Hid (Below w.heap.size w W)):=Lib.hid (fun W h=>⟨cell_later h f0,cell_later h f1,Lib.hid h⟩)
  have BD:Hid (Below w.heap.size w (w.alloc (.cells #[.int .i64 0,.int .i64 0,.int .i64 0,.int .i64 0,.int .i64 0,.int .i64 0,.int .i64 0,.int .i64 0,.int .i64 0,.int .i64 0,.slice none 0 0,.int .i64 0] 68)).drew):=Lib.hid B1.out.drew
  have BA:Hid (∀ cs:Array Value,Below w.heap.size w ((w.alloc (.cells #[.int .i64 0,.int .i64 0,.int .i64 0,.int .i64 0,.int .i64 0,.int .i64 0,.int .i64 0,.int .i64 0,.int .i64 0,.int .i64 0,.slice none 0 0,.int .i64 0] 68)).alloc (.cells cs 68)).drew):=Lib.hid (fun cs=>(B1.out.alloc B1.out.size _).drew)
  have NV:Hid (NodeVar (w.alloc (.cells #[.int .i64 0,.int .i64 0,.int .i64 0,.int .i64 0,.int .i64 0,.int .i64 0,.int .i64 0,.int .i64 0,.int .i64 0,.int .i64 0,.slice none 0 0,.int .i64 0] 68)) (w.heap.size+1) (headV x0 x1 n2 n4) (.slice none 0 0) ((w.alloc (.cells #[.int .i64 0,.int .i64 0,.int .i64 0,.int .i64 0,.int .i64 0,.int .i64 0,.int .i64 0,.int .i64 0,.int .i64 0,.int .i64 0,.slice none 0 0,.int .i64 0] 68)).alloc (.cells #[.int .i64 x0,.int .i64 x1,.int .i64 n2,.int .i64 n4,.int .i64 0,.int .i64 0,.int .i64 0,.int .i64 0,.int .i64 0,.int .i64 0,.slice none 0 0,.int .i64 0] 68)).drew):=Lib.hid (by
    have h:=(nodevar_new (w.alloc (.cells #[.int .i64 0,.int .i64 0,.int .i64 0,.int .i64 0,.int .i64 0,.int .i64 0,.int .i64 0,.int .i64 0,.int .i64 0,.int .i64 0,.slice none 0 0,.int .i64 0] 68)) x0 x1 n2 n4).drew
    rw [World.size_alloc] at h
    exact h)
  clear hA hB hc f0 f1 h32
  go_enter Tryz.func25,Tryz.ntmps25
  go_upto_region 3 with fail
  go_cut [4] from 9 (fun s4 wx=>s4=.pointer (some ⟨w.heap.size+1,0,none⟩)∧Hid (NodeVar (w.alloc (.cells #[.int .i64 0,.int .i64 0,.int .i64 0,.int .i64 0,.int .i64 0,.int .i64 0,.int .i64 0,.int .i64 0,.int .i64 0,.int .i64 0,.slice none 0 0,.int .i64 0] 68)) (w.heap.size+1) (headV x0 x1 n2 n4) (.slice none 0 0) wx))
  case first=>
    go_region_held (fun W=>W.cell? ⟨g,off,none⟩=some (.int .u8 x0)∧W.cell? ⟨g,off+1,none⟩=some (.int .u8 x1)∧Hid (Below w.heap.size w W)) (first | exact HK.out _ BD.out | exact HK.out _ (BA.out _))
      (first | (go_at_call 51;refine (CN.out _ (by first | exact BD.out | exact BA.out _) _ _ (by decide) (by decide) (by decide)).mono ?_;rintro e w' ⟨rfl,rfl⟩;first | rw [show leN zs (Int.toNat 2) (Int.toNat 2)=n2 from HN2.out] | rw [show leN zs (Int.toNat 4) (Int.toNat 2)=n4 from HN4.out]))
    all_goals
      go_wp2_with fail
      go_meet
      case rel=>exact ⟨rfl,NV⟩
  case rest=>
    obtain ⟨rfl,HNV⟩:=hcut
    have q1:wc.cell? ⟨w.heap.size+1,1,none⟩=some (.int .i64 x1):=HNV.out.2.1 1 (by decide) (by decide)
    have e1:(x1 == 2)=false:=by simp [hf]
    have e1':decide (x1=2)=false:=by simp [hf]
    have HRX:Hid ((rNode zs).x=[]):=Lib.hid (by rw [hrn])
    have hval:(rNode zs).val (.slice none 0 0)=.agg #[.int .i64 x0,.int .i64 x1,.int .i64 n2,.int .i64 n4,.int .i64 (leN zs 6 2),.int .i64 (leN zs 8 2),.int .i64 (leN zs 10 2),.int .i64 (leN zs 12 2),.int .i64 (leN zs 14 2),.int .i64 (leN zs 16 2),.slice none 0 0,.int .i64 0]:=by
      rw [hrn,← HX0.out,← HX1.out,← HN2.out,← HN4.out];rfl
    obtain ⟨E,O,hEO⟩:∃ E O,nodeErr (rNode zs)=E∧nodeOut (rNode zs)=O:=⟨_,_,rfl,rfl⟩
    have H3:Hid ((E=2∧rdecErr zs=2∧rdecN zs=noNode)∨(E=0∧((str O).toList == (str zs).toList)=true∧rdecErr zs=0∧rdecN zs=rNode zs)∨(E=0∧((str O).toList == (str zs).toList)=false∧rdecErr zs=2∧rdecN zs=noNode)):=Lib.hid (by
      obtain ⟨e1,e2⟩:=hEO
      unfold nodeErr at e1
      unfold nodeOut at e2
      rcases HRW.out with ⟨hs,hb,hg,he⟩ | ⟨hs,hb,hg,he⟩ | ⟨hs,hg,he⟩
      · rw [if_pos hs] at e1 e2
        right;left
        rw [hb] at e2
        exact ⟨e1.symm,by rw [← e2];simp,he,hg⟩
      · rw [if_pos hs] at e1 e2
        right;right
        refine ⟨e1.symm,?_,he,hg⟩
        rw [← e2,str_eq (node32_bytes _ HSM.out) HZ.out,decide_eq_false hb]
      · rw [hs,if_neg (by decide)] at e1
        exact Or.inl ⟨e1.symm,he,hg⟩)
    have cE:=fun (W:World) {xo:Option Addr} {m xc:Nat} (hX:XIs W xo m (rNode zs).x)=>renc_any (cap:=xc) (rNode zs) W HSM.out hX
    rw [hEO.1,hEO.2] at cE
    have CE0:=Lib.hid cE
    clear cE hEO hf hrn HK BD BA NV
    go_wp2_with fail
    go_loopw [6] (fun iv wr=>∃ i:Int,iv=.int .i64 i∧(0≤i∧i≤4)∧Hid (NodeVar (w.alloc (.cells #[.int .i64 0,.int .i64 0,.int .i64 0,.int .i64 0,.int .i64 0,.int .i64 0,.int .i64 0,.int .i64 0,.int .i64 0,.int .i64 0,.slice none 0 0,.int .i64 0] 68)) (w.heap.size+1) (oldV zs x0 x1 n2 n4 i.toNat) (.slice none 0 0) wr)) (fun iv _=>4 - (intOf iv).toNat)
    case atStart=>exact ⟨0,rfl,by decide,Lib.hid (HNV.out.congr (fun o h1 h2=>by unfold oldV;rw [if_neg (by show ¬ (4≤o∧o < 4+0);omega)]))⟩
    case round=>
      obtain ⟨i,rfl,hi,HR⟩:=hrel
      have BR:=Lib.hid (B1.out.trans (HR.out.1.mono B1.out.size))
      by_cases hlt:i < 4
      · obtain rfl | rfl | rfl | rfl:i=0∨i=1∨i=2∨i=3:=by omega
        · have k4:=HR.out.2.1 4 (by decide) (by decide)
          have fz:=HR.out.2.2.2
          generalize oldV zs x0 x1 n2 n4 (Int.toNat 0) 4=y at k4
          go_wp2_with (go_at_call 51;refine (CN.out _ BR.out _ _ (by decide) (by decide) (by decide)).mono ?_;rintro e w' ⟨rfl,rfl⟩;rw [show leN zs (Int.toNat 6) (Int.toNat 2)=leN zs 6 2 from rfl])
          go_roundw
          case rel=>exact ⟨1,by go_num,by decide,Lib.hid ((HR.out.set (by simp) (k:=4) (by decide) (by decide) (leN zs 6 2)).congr (fun o h1 h2=>by
            by_cases e:o=4
            · subst e;rfl
            · rw [if_neg e]
              unfold oldV
              by_cases e2:4≤o∧o < 4+0
              · rw [if_pos (show 4≤o∧o < 4+Int.toNat 0 from e2),if_pos (by show 4≤o∧o < 4+1;omega)]
              · rw [if_neg (show ¬ (4≤o∧o < 4+Int.toNat 0) from e2),if_neg (by show ¬ (4≤o∧o < 4+1);omega)]))⟩
          case measure=>simp [intOf]
        · have k4:=HR.out.2.1 5 (by decide) (by decide)
          have fz:=HR.out.2.2.2
          generalize oldV zs x0 x1 n2 n4 (Int.toNat 1) 5=y at k4
          go_wp2_with (go_at_call 51;refine (CN.out _ BR.out _ _ (by decide) (by decide) (by decide)).mono ?_;rintro e w' ⟨rfl,rfl⟩;rw [show leN zs (Int.toNat 8) (Int.toNat 2)=leN zs 8 2 from rfl])
          go_roundw
          case rel=>exact ⟨2,by go_num,by decide,Lib.hid ((HR.out.set (by simp) (k:=5) (by decide) (by decide) (leN zs 8 2)).congr (fun o h1 h2=>by
            by_cases e:o=5
            · subst e;rfl
            · rw [if_neg e]
              unfold oldV
              by_cases e2:4≤o∧o < 4+1
              · rw [if_pos (show 4≤o∧o < 4+Int.toNat 1 from e2),if_pos (by show 4≤o∧o < 4+2;omega)]
              · rw [if_neg (show ¬ (4≤o∧o < 4+Int.toNat 1) from e2),if_neg (by show ¬ (4≤o∧o < 4+2);omega)]))⟩
          case measure=>simp [intOf]
        · have k4:=HR.out.2.1 6 (by decide) (by decide)
          have fz:=HR.out.2.2.2
          generalize oldV zs x0 x1 n2 n4 (Int.toNat 2) 6=y at k4
          go_wp2_with (go_at_call 51;refine (CN.out _ BR.out _ _ (by decide) (by decide) (by decide)).mono ?_;rintro e w' ⟨rfl,rfl⟩;rw [show leN zs (Int.toNat 10) (Int.toNat 2)=leN zs 10 2 from rfl])
          go_roundw
          case rel=>exact ⟨3,by go_num,by decide,Lib.hid ((HR.out.set (by simp) (k:=6) (by decide) (by decide) (leN zs 10 2)).congr (fun o h1 h2=>by
            by_cases e:o=6
            · subst e;rfl
            · rw [if_neg e]
              unfold oldV
              by_cases e2:4≤o∧o < 4+2
              · rw [if_pos (show 4≤o∧o < 4+Int.toNat 2 from e2),if_pos (by show 4≤o∧o < 4+3;omega)]
              · rw [if_neg (show ¬ (4≤o∧o < 4+Int.toNat 2) from e2),if_neg (by show ¬ (4≤o∧o < 4+3);omega)]))⟩
          case measure=>simp [intOf]
        · have k4:=HR.out.2.1 7 (by decide) (by decide)
          have fz:=HR.out.2.2.2
          generalize oldV zs x0 x1 n2 n4 (Int.toNat 3) 7=y at k4
          go_wp2_with (go_at_call 51;refine (CN.out _ BR.out _ _ (by decide) (by decide) (by decide)).mono ?_;rintro e w' ⟨rfl,rfl⟩;rw [show leN zs (Int.toNat 12) (Int.toNat 2)=leN zs 12 2 from rfl])
          go_roundw
          case rel=>exact ⟨4,by go_num,by decide,Lib.hid ((HR.out.set (by simp) (k:=7) (by decide) (by decide) (leN zs 12 2)).congr (fun o h1 h2=>by
            by_cases e:o=7
            · subst e;rfl
            · rw [if_neg e]
              unfold oldV
              by_cases e2:4≤o∧o < 4+3
              · rw [if_pos (show 4≤o∧o < 4+Int.toNat 3 from e2),if_pos (by show 4≤o∧o < 4+4;omega)]
              · rw [if_neg (show ¬ (4≤o∧o < 4+Int.toNat 3) from e2),if_neg (by show ¬ (4≤o∧o < 4+4);omega)]))⟩
          case measure=>simp [intOf]
      · have hin:i=4:=by omega
        subst hin
        obtain ⟨d0,D0⟩:∃ d,leN zs 6 2=d:=⟨_,rfl⟩
        obtain ⟨d1,D1⟩:∃ d,leN zs 8 2=d:=⟨_,rfl⟩
        obtain ⟨d2,D2⟩:∃ d,leN zs 10 2=d:=⟨_,rfl⟩
        obtain ⟨d3,D3⟩:∃ d,leN zs 12 2=d:=⟨_,rfl⟩
        obtain ⟨s,DS⟩:∃ d,leN zs 14 2=d:=⟨_,rfl⟩
        obtain ⟨t,DT⟩:∃ d,leN zs 16 2=d:=⟨_,rfl⟩
        rw [D0,D1,D2,D3,DS,DT] at hval
        have HRN:=Lib.hid hval
        have HDS:=Lib.hid DS
        have HDT:=Lib.hid DT
        have k8:wr.cell? ⟨w.heap.size+1,8,none⟩=some (.int .i64 0):=HR.out.2.1 8 (by decide) (by decide)
        have k9:wr.cell? ⟨w.heap.size+1,9,none⟩=some (.int .i64 0):=HR.out.2.1 9 (by decide) (by decide)
        have fz:=HR.out.2.2.2
        have NQ:=Lib.hid (((HR.out.set (by simp) (k:=8) (by decide) (by decide) s).set (by simp) (k:=9) (by decide) (by decide) t))
        have BQ:=Lib.hid (B1.out.trans (NQ.out.1.mono B1.out.size))
        have c0:((wr.setCell ⟨w.heap.size+1,8,none⟩ (.int .i64 s)).setCell ⟨w.heap.size+1,9,none⟩ (.int .i64 t)).cell? ⟨w.heap.size+1,0,none⟩=some (.int .i64 x0):=by exact NQ.out.2.1 0 (by decide) (by decide)
        have c1:((wr.setCell ⟨w.heap.size+1,8,none⟩ (.int .i64 s)).setCell ⟨w.heap.size+1,9,none⟩ (.int .i64 t)).cell? ⟨w.heap.size+1,1,none⟩=some (.int .i64 x1):=by exact NQ.out.2.1 1 (by decide) (by decide)
        have c2:((wr.setCell ⟨w.heap.size+1,8,none⟩ (.int .i64 s)).setCell ⟨w.heap.size+1,9,none⟩ (.int .i64 t)).cell? ⟨w.heap.size+1,2,none⟩=some (.int .i64 n2):=by exact NQ.out.2.1 2 (by decide) (by decide)
        have c3:((wr.setCell ⟨w.heap.size+1,8,none⟩ (.int .i64 s)).setCell ⟨w.heap.size+1,9,none⟩ (.int .i64 t)).cell? ⟨w.heap.size+1,3,none⟩=some (.int .i64 n4):=by exact NQ.out.2.1 3 (by decide) (by decide)
        have c4:((wr.setCell ⟨w.heap.size+1,8,none⟩ (.int .i64 s)).setCell ⟨w.heap.size+1,9,none⟩ (.int .i64 t)).cell? ⟨w.heap.size+1,4,none⟩=some (.int .i64 d0):=by rw [← D0];exact NQ.out.2.1 4 (by decide) (by decide)
        have c5:((wr.setCell ⟨w.heap.size+1,8,none⟩ (.int .i64 s)).setCell ⟨w.heap.size+1,9,none⟩ (.int .i64 t)).cell? ⟨w.heap.size+1,5,none⟩=some (.int .i64 d1):=by rw [← D1];exact NQ.out.2.1 5 (by decide) (by decide)
        have c6:((wr.setCell ⟨w.heap.size+1,8,none⟩ (.int .i64 s)).setCell ⟨w.heap.size+1,9,none⟩ (.int .i64 t)).cell? ⟨w.heap.size+1,6,none⟩=some (.int .i64 d2):=by rw [← D2];exact NQ.out.2.1 6 (by decide) (by decide)
        have c7:((wr.setCell ⟨w.heap.size+1,8,none⟩ (.int .i64 s)).setCell ⟨w.heap.size+1,9,none⟩ (.int .i64 t)).cell? ⟨w.heap.size+1,7,none⟩=some (.int .i64 d3):=by rw [← D3];exact NQ.out.2.1 7 (by decide) (by decide)
        have c8:((wr.setCell ⟨w.heap.size+1,8,none⟩ (.int .i64 s)).setCell ⟨w.heap.size+1,9,none⟩ (.int .i64 t)).cell? ⟨w.heap.size+1,8,none⟩=some (.int .i64 s):=by exact NQ.out.2.1 8 (by decide) (by decide)
        have c9:((wr.setCell ⟨w.heap.size+1,8,none⟩ (.int .i64 s)).setCell ⟨w.heap.size+1,9,none⟩ (.int .i64 t)).cell? ⟨w.heap.size+1,9,none⟩=some (.int .i64 t):=by exact NQ.out.2.1 9 (by decide) (by decide)
        have c10:=NQ.out.2.2.1
        have c11:((wr.setCell ⟨w.heap.size+1,8,none⟩ (.int .i64 s)).setCell ⟨w.heap.size+1,9,none⟩ (.int .i64 t)).cell? ⟨w.heap.size+1,11,none⟩=some (.int .i64 0):=by exact NQ.out.2.1 11 (by decide) (by decide)
        have CE:Hid (∀ W,Calls Tryz.prog 55 #[.agg #[.int .i64 x0,.int .i64 x1,.int .i64 n2,.int .i64 n4,.int .i64 d0,.int .i64 d1,.int .i64 d2,.int .i64 d3,.int .i64 s,.int .i64 t,.slice none 0 0,.int .i64 0]] W (Handed W.heap.size W O E)):=Lib.hid (fun W=>by
          have h:=CE0.out W (xo:=none) (m:=0) (xc:=0) (by rw [HRX.out];exact XIs.nil W)
          rw [HRN.out] at h
          exact h)
        clear D0 D1 D2 D3 DS DT hval CE0
        rcases H3.out with ⟨h1,h2,h3⟩ | ⟨h1,h4,h2,h3⟩ | ⟨h1,h4,h2,h3⟩
        · subst h1
          have G2:=Lib.hid h2
          have G3:=Lib.hid h3
          clear h2 h3
          go_wp2_with (first
            | (go_at_call 51;refine (CN.out _ (by first | exact BR.out | exact BR.out.setCell (p:=⟨w.heap.size+1,8,none⟩) (by simp) _) _ _ (by decide) (by decide) (by decide)).mono ?_;rintro e w' ⟨rfl,rfl⟩;first | rw [show leN zs (Int.toNat 14) (Int.toNat 2)=s from HDS.out] | rw [show leN zs (Int.toNat 16) (Int.toNat 2)=t from HDT.out])
            | (go_at_call 55;refine (CE.out _).mono ?_;rintro e w5 ⟨v5,rfl,hf5,hb5⟩;have k1:=fresh_str hf5;have k2:=str_bytes (cap:=cap) (HB.out.later (BQ.out.trans (hb5.mono BQ.out.size)));have T5:=Lib.hid (HTH.out w5 (NQ.out.1.trans (hb5.mono NQ.out.1.size)));have B5:=Lib.hid (BQ.out.trans (hb5.mono BQ.out.size));have HB5:=Lib.hid hb5;have u0:=cell_later hb5 c0;have u1:=cell_later hb5 c1;have u2:=cell_later hb5 c2;have u3:=cell_later hb5 c3;have u4:=cell_later hb5 c4;have u5:=cell_later hb5 c5;have u6:=cell_later hb5 c6;have u7:=cell_later hb5 c7;have u8:=cell_later hb5 c8;have u9:=cell_later hb5 c9;have u10:=cell_later hb5 c10;have u11:=cell_later hb5 c11;clear hf5 hb5)
            | (refine wpList_store_mid rfl 68 (.tmp 2) (.tmp 86) rfl w.heap.size 0 (List.toArray [.int .i64 0,.int .i64 0,.int .i64 0,.int .i64 0,.int .i64 0,.int .i64 0,.int .i64 0,.int .i64 0,.int .i64 0,.int .i64 0,.slice none 0 0,.int .i64 0]) rfl rfl T5.out (by kernel_rfl) (all_oneCell_toArray (by intro v hv;simp only [List.mem_cons,List.mem_nil_iff,or_false] at hv;rcases hv with rfl | rfl | rfl | rfl | rfl | rfl | rfl | rfl | rfl | rfl | rfl | rfl <;> rfl)) ?_;have RG:=World.rangeAt_setCells_same w5 w.heap.size 0 [.int .i64 0,.int .i64 0,.int .i64 0,.int .i64 0,.int .i64 0,.int .i64 0,.int .i64 0,.int .i64 0,.int .i64 0,.int .i64 0,.slice none 0 0,.int .i64 0] T5.out;have BF:=Lib.hid (below_setCells (B:=w.heap.size) (g:=w.heap.size) B5.out (Nat.le_refl _) [.int .i64 0,.int .i64 0,.int .i64 0,.int .i64 0,.int .i64 0,.int .i64 0,.int .i64 0,.int .i64 0,.int .i64 0,.int .i64 0,.slice none 0 0,.int .i64 0] 0);generalize w5.setCells w.heap.size 0 [.int .i64 0,.int .i64 0,.int .i64 0,.int .i64 0,.int .i64 0,.int .i64 0,.int .i64 0,.int .i64 0,.int .i64 0,.int .i64 0,.slice none 0 0,.int .i64 0]=W9 at *;have y0:=RG 0 _ rfl;have y1:=RG 1 _ rfl;have y2:=RG 2 _ rfl;have y3:=RG 3 _ rfl;have y4:=RG 4 _ rfl;have y5:=RG 5 _ rfl;have y6:=RG 6 _ rfl;have y7:=RG 7 _ rfl;have y8:=RG 8 _ rfl;have y9:=RG 9 _ rfl;have y10:=RG 10 _ rfl;have y11:=RG 11 _ rfl;clear RG))
          refine bodyPost_ret (v:=.tuple #[(rdecN zs).val (.slice none 0 0),.int .i64 (rdecErr zs)]) ?_ rfl ⟨none,0,0,rfl,by rw [G3.out];exact XIs.nil _,BF.out⟩
          rw [G2.out,G3.out,results_cell_tmp rfl]
          unfold noNode PNode.val
          go_simp
          try rfl
        · subst h1
          have G2:=Lib.hid h2
          have G3:=Lib.hid h3
          clear h2 h3
          go_wp2_with (first
            | (go_at_call 51;refine (CN.out _ (by first | exact BR.out | exact BR.out.setCell (p:=⟨w.heap.size+1,8,none⟩) (by simp) _) _ _ (by decide) (by decide) (by decide)).mono ?_;rintro e w' ⟨rfl,rfl⟩;first | rw [show leN zs (Int.toNat 14) (Int.toNat 2)=s from HDS.out] | rw [show leN zs (Int.toNat 16) (Int.toNat 2)=t from HDT.out])
            | (go_at_call 55;refine (CE.out _).mono ?_;rintro e w5 ⟨v5,rfl,hf5,hb5⟩;have k1:=fresh_str hf5;have k2:=str_bytes (cap:=cap) (HB.out.later (BQ.out.trans (hb5.mono BQ.out.size)));have T5:=Lib.hid (HTH.out w5 (NQ.out.1.trans (hb5.mono NQ.out.1.size)));have B5:=Lib.hid (BQ.out.trans (hb5.mono BQ.out.size));have HB5:=Lib.hid hb5;have u0:=cell_later hb5 c0;have u1:=cell_later hb5 c1;have u2:=cell_later hb5 c2;have u3:=cell_later hb5 c3;have u4:=cell_later hb5 c4;have u5:=cell_later hb5 c5;have u6:=cell_later hb5 c6;have u7:=cell_later hb5 c7;have u8:=cell_later hb5 c8;have u9:=cell_later hb5 c9;have u10:=cell_later hb5 c10;have u11:=cell_later hb5 c11;clear hf5 hb5)
            | (refine wpList_store_mid rfl 68 (.tmp 2) (.tmp 87) rfl w.heap.size 0 (List.toArray [.int .i64 x0,.int .i64 x1,.int .i64 n2,.int .i64 n4,.int .i64 d0,.int .i64 d1,.int .i64 d2,.int .i64 d3,.int .i64 s,.int .i64 t,.slice none 0 0,.int .i64 0]) rfl rfl T5.out (by kernel_rfl) (all_oneCell_toArray (by intro v hv;simp only [List.mem_cons,List.mem_nil_iff,or_false] at hv;rcases hv with rfl | rfl | rfl | rfl | rfl | rfl | rfl | rfl | rfl | rfl | rfl | rfl <;> rfl)) ?_;have RG:=World.rangeAt_setCells_same w5 w.heap.size 0 [.int .i64 x0,.int .i64 x1,.int .i64 n2,.int .i64 n4,.int .i64 d0,.int .i64 d1,.int .i64 d2,.int .i64 d3,.int .i64 s,.int .i64 t,.slice none 0 0,.int .i64 0] T5.out;have BF:=Lib.hid (below_setCells (B:=w.heap.size) (g:=w.heap.size) B5.out (Nat.le_refl _) [.int .i64 x0,.int .i64 x1,.int .i64 n2,.int .i64 n4,.int .i64 d0,.int .i64 d1,.int .i64 d2,.int .i64 d3,.int .i64 s,.int .i64 t,.slice none 0 0,.int .i64 0] 0);have XF:=Lib.hid (XIs.nil (w5.setCells w.heap.size 0 [.int .i64 x0,.int .i64 x1,.int .i64 n2,.int .i64 n4,.int .i64 d0,.int .i64 d1,.int .i64 d2,.int .i64 d3,.int .i64 s,.int .i64 t,.slice none 0 0,.int .i64 0]));generalize w5.setCells w.heap.size 0 [.int .i64 x0,.int .i64 x1,.int .i64 n2,.int .i64 n4,.int .i64 d0,.int .i64 d1,.int .i64 d2,.int .i64 d3,.int .i64 s,.int .i64 t,.slice none 0 0,.int .i64 0]=W9 at *;have y0:=RG 0 _ rfl;have y1:=RG 1 _ rfl;have y2:=RG 2 _ rfl;have y3:=RG 3 _ rfl;have y4:=RG 4 _ rfl;have y5:=RG 5 _ rfl;have y6:=RG 6 _ rfl;have y7:=RG 7 _ rfl;have y8:=RG 8 _ rfl;have y9:=RG 9 _ rfl;have y10:=RG 10 _ rfl;have y11:=RG 11 _ rfl;clear RG))
          refine bodyPost_ret (v:=.tuple #[(rdecN zs).val (.slice none 0 0),.int .i64 (rdecErr zs)]) ?_ rfl ⟨_,_,_,rfl,by rw [G3.out,HRX.out];exact XF.out,BF.out⟩
          rw [G2.out,G3.out,HRN.out,results_cell_tmp rfl]
          go_simp
          try rfl
        · subst h1
          have G2:=Lib.hid h2
          have G3:=Lib.hid h3
          clear h2 h3
          go_wp2_with (first
            | (go_at_call 51;refine (CN.out _ (by first | exact BR.out | exact BR.out.setCell (p:=⟨w.heap.size+1,8,none⟩) (by simp) _) _ _ (by decide) (by decide) (by decide)).mono ?_;rintro e w' ⟨rfl,rfl⟩;first | rw [show leN zs (Int.toNat 14) (Int.toNat 2)=s from HDS.out] | rw [show leN zs (Int.toNat 16) (Int.toNat 2)=t from HDT.out])
            | (go_at_call 55;refine (CE.out _).mono ?_;rintro e w5 ⟨v5,rfl,hf5,hb5⟩;have k1:=fresh_str hf5;have k2:=str_bytes (cap:=cap) (HB.out.later (BQ.out.trans (hb5.mono BQ.out.size)));have T5:=Lib.hid (HTH.out w5 (NQ.out.1.trans (hb5.mono NQ.out.1.size)));have B5:=Lib.hid (BQ.out.trans (hb5.mono BQ.out.size));have HB5:=Lib.hid hb5;have u0:=cell_later hb5 c0;have u1:=cell_later hb5 c1;have u2:=cell_later hb5 c2;have u3:=cell_later hb5 c3;have u4:=cell_later hb5 c4;have u5:=cell_later hb5 c5;have u6:=cell_later hb5 c6;have u7:=cell_later hb5 c7;have u8:=cell_later hb5 c8;have u9:=cell_later hb5 c9;have u10:=cell_later hb5 c10;have u11:=cell_later hb5 c11;clear hf5 hb5)
            | (refine wpList_store_mid rfl 68 (.tmp 2) (.tmp 86) rfl w.heap.size 0 (List.toArray [.int .i64 0,.int .i64 0,.int .i64 0,.int .i64 0,.int .i64 0,.int .i64 0,.int .i64 0,.int .i64 0,.int .i64 0,.int .i64 0,.slice none 0 0,.int .i64 0]) rfl rfl T5.out (by kernel_rfl) (all_oneCell_toArray (by intro v hv;simp only [List.mem_cons,List.mem_nil_iff,or_false] at hv;rcases hv with rfl | rfl | rfl | rfl | rfl | rfl | rfl | rfl | rfl | rfl | rfl | rfl <;> rfl)) ?_;have RG:=World.rangeAt_setCells_same w5 w.heap.size 0 [.int .i64 0,.int .i64 0,.int .i64 0,.int .i64 0,.int .i64 0,.int .i64 0,.int .i64 0,.int .i64 0,.int .i64 0,.int .i64 0,.slice none 0 0,.int .i64 0] T5.out;have BF:=Lib.hid (below_setCells (B:=w.heap.size) (g:=w.heap.size) B5.out (Nat.le_refl _) [.int .i64 0,.int .i64 0,.int .i64 0,.int .i64 0,.int .i64 0,.int .i64 0,.int .i64 0,.int .i64 0,.int .i64 0,.int .i64 0,.slice none 0 0,.int .i64 0] 0);generalize w5.setCells w.heap.size 0 [.int .i64 0,.int .i64 0,.int .i64 0,.int .i64 0,.int .i64 0,.int .i64 0,.int .i64 0,.int .i64 0,.int .i64 0,.int .i64 0,.slice none 0 0,.int .i64 0]=W9 at *;have y0:=RG 0 _ rfl;have y1:=RG 1 _ rfl;have y2:=RG 2 _ rfl;have y3:=RG 3 _ rfl;have y4:=RG 4 _ rfl;have y5:=RG 5 _ rfl;have y6:=RG 6 _ rfl;have y7:=RG 7 _ rfl;have y8:=RG 8 _ rfl;have y9:=RG 9 _ rfl;have y10:=RG 10 _ rfl;have y11:=RG 11 _ rfl;clear RG))
          refine bodyPost_ret (v:=.tuple #[(rdecN zs).val (.slice none 0 0),.int .i64 (rdecErr zs)]) ?_ rfl ⟨none,0,0,rfl,by rw [G3.out];exact XIs.nil _,BF.out⟩
          rw [G2.out,G3.out,results_cell_tmp rfl]
          unfold noNode PNode.val
          go_simp
          try rfl
end Go.Proofs.YtcefmpnijjcekaaGreatDoor
