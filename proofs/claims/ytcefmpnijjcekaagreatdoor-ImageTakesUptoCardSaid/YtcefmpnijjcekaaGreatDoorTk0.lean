/- Proved here: plain facts on lists of whole numbers (a part that is set, two that are swapped) and on exclusive-or. No conditions but those that each theorem names. Nothing of the program is read here. Proved here: what a law is told of a slice of bytes that came in, and that it stays so while only new memory is made. No conditions but those that each theorem names. Proved .. -/
import Derived.Test.YtcefmpnijjcekaaGreatDoorRows
import Derived.WalkKit
import Derived.WalkSpells
import Derived.WalkLawsBesides
import Derived.Lib.Hide
import Derived.ProofKit
import Derived.OpenShut
import Derived.ShutString
import Derived.ChangeOld
import Derived.Below
import Derived.SizedLaws
import Derived.Deep.AppendLies
import Derived.Laws.AppendOwnNone
import Derived.Lib.AppendStr
import Derived.Deep.RegionLaw
import Derived.Laws.IdiomCopy
import Derived.Deep.MidRow
import Derived.ChangeKeysEq
import Derived.Deep.RegionHeld3
import Derived.Deep.QuietTactic
import Derived.BigQuiet
import Derived.StillTailTactics
import Derived.Laws.ResultCell
set_option linter.unusedVariables false
set_option linter.unusedSimpArgs false
namespace Go.Proofs.YtcefmpnijjcekaaGreatDoor
theorem take_snoc (l:List Int) (k:Nat) (h:k < l.length):l.take (k+1)=l.take k ++ [l.getD k 0]:=by
  rw [List.take_succ_eq_append_getElem h]
  simp [List.getD,h]
theorem getD_mem {l:List Int} {k:Nat} (h:k < l.length):l.getD k 0 ∈ l:=by
  simp [List.getD,h]
theorem set_at (l:List Int) (k:Nat) (y:Int) (h:k < l.length):l.set k y=l.take k ++ [y] ++ l.drop (k+1):=by
  rw [List.set_eq_take_append_cons_drop,if_pos h];simp
theorem getD_set (zs:List Int) (k j:Nat) (y:Int) (hk:k < zs.length):(zs.set k y).getD j 0=if j=k then y else zs.getD j 0:=by
  by_cases h:j=k
  · subst h;simp [List.getD,hk]
  · have h':¬ k=j:=fun e=>h e.symm
    simp [List.getD,h,List.getElem?_set_ne h']
theorem mem_set {zs:List Int} {k:Nat} {y:Int} (hz:∀ z ∈ zs,0≤z∧z≤255) (hy:0≤y∧y≤255):∀ z ∈ zs.set k y,0≤z∧z≤255:=by
  intro z h
  rcases List.mem_or_eq_of_mem_set h with h | h
  · exact hz z h
  · rw [h];exact hy
theorem take_getD (l:List Int) (n j:Nat) (h:j < n):(l.take n).getD j 0=l.getD j 0:=by
  simp [h]
end Go.Proofs.YtcefmpnijjcekaaGreatDoor
namespace Go.Proofs.YtcefmpnijjcekaaGreatDoor
open Go.ChangeShapes Go.WideShapes Go.ChangeAt Go.RowKit
theorem ret_int {k:IntKind} {a b:Int} (h:a=b):Ending.returned (.int k a)=.returned (.int k b):=by rw [h]
def Bts (w:World) (a:Option Addr) (len:Nat) (zs:List Int):Prop:=
  zs.length=len∧len≤9223372036854775807∧(∀ z ∈ zs,0≤z∧z≤255)∧
    (len=0∨∃ b off,a=some ⟨b,off,none⟩∧∀ j,j < len→w.cell? ⟨b,off+j,none⟩=some (.int .u8 (zs.getD j 0)))
theorem own:ownKnob Tryz.prog.godebug=none:=by kernel_rfl
theorem laidOut:laidOutB Tryz.prog=true:=by kernel_rfl
theorem wf_u8 {n:Int} (h:(Lit.int .u8 n).wf=true):0≤n∧n≤255:=by
  simp [Lit.wf,IntKind.min,IntKind.max,IntKind.bits,IntKind.signed] at h;omega
theorem wf_i64 {n:Int} (h:(Lit.int .i64 n).wf=true):-9223372036854775808≤n∧n≤9223372036854775807:=by
  simp [Lit.wf,IntKind.min,IntKind.max,IntKind.bits,IntKind.signed] at h;omega
theorem Bts.later {w wx:World} {a:Option Addr} {len:Nat} {zs:List Int} (h:Bts w a len zs) (hb:Below w.heap.size w wx):Bts wx a len zs:=by
  obtain ⟨h1,h2,h3,h4⟩:=h
  refine ⟨h1,h2,h3,?_⟩
  rcases h4 with h4 | ⟨b,off,rfl,hc⟩
  · exact Or.inl h4
  · exact Or.inr ⟨b,off,rfl,fun j hj=>cell_later hb (hc j hj)⟩
theorem info5:(Tryz.prog.info? 5).map (fun i=>(i.zero,i.size,i.bytes))=some (some (.int .u8 0),1,1):=by kernel_rfl
theorem one_cells (zs:List Int):∀ u ∈ zs.map (Value.int .u8),u.oneCell'=true:=by
  intro u hu
  obtain ⟨_,_,rfl⟩:=List.mem_map.1 hu
  rfl
theorem bts_news {w:World} {ao:Option Addr} {m:Nat} {zs:List Int} (hB:Bts w ao m zs) {ad:Addr} (hao:ao=some ad):∀ j u,(zs.map (Value.int .u8))[j]?=some u→w.cell? (ad.add j)=some u:=by
  intro j u hu
  rw [List.getElem?_map] at hu
  have hj:j < zs.length:=by
    rcases Nat.lt_or_ge j zs.length with h | h
    · exact h
    · rw [List.getElem?_eq_none h] at hu;simp at hu
  rcases hB.2.2.2 with h0 | ⟨b,off,he,hc⟩
  · rw [hB.1] at hj;omega
  · rw [hao] at he
    simp only [Option.some.injEq] at he
    subst he
    rw [Go.WideShapes.add_plain,hc j (by rw [← hB.1];exact hj)]
    simp [List.getD,hj] at hu ⊢
    exact hu
theorem wp_append_bytes {ops:Array Oper} {rest:List Oper} {o:Oper} {a:Act} {Q:Exit→Act→World→Prop} {w:World} (hgd:o.guard=none) (s x:Operand)
    (ho:o.op=.call { callee:=.builtin .append,args:=#[s,x],argTypes:=#[44,44] }) (base n:Nat) (v:Value) (xs:List Value) (hs:a.eval s=v) (hown:w.ownsRow base 5 1 v n xs)
    (ao:Option Addr) (m c:Nat) (zs:List Int) (hx:a.eval x=.slice ao m c) (hB:Bts w ao m zs) (hnil:ao=none→m=0∧c=0) (hb:n+m≤140737488355328) (hbase:base≤w.heap.size)
    (h:∀ v' w',w'.ownsRow base 5 1 v' (n+m) (xs ++ zs.map (Value.int .u8))→Below base w w'→wpList Tryz.prog ops Q rest (a.put o.dst v') w'):wpList Tryz.prog ops Q (o::rest) a w:=by
  obtain ⟨i0,hi,hz0,hz1,hz2⟩:=info_parts info5
  cases ao with
  | none=>
    obtain ⟨rfl,rfl⟩:=hnil rfl
    have hzs:zs=[]:=List.length_eq_zero_iff.1 hB.1
    subst hzs
    refine wpList_append_own_none hgd s x 44 ho base 5 i0 1 Tryz.underlying44 hi v n xs hs hown hx (h v w ?_ (Below.refl _ _))
    simpa using hown
  | some ad=>
    have hnews:=bts_news hB rfl
    refine wpList_append_own w hgd s x 44 ho base 5 i0 (.int .u8 0) 1 1 Tryz.underlying44 hi hz0 hz1 hz2 rfl (by decide) v n xs hs hown ad m c (zs.map (Value.int .u8)) hx (by rw [List.length_map,hB.1,Nat.mul_one]) hnews (one_cells zs)
      (by unfold maxLen;omega) (by omega) hbase (fun v' w' h1 h2 _=>h v' w' h1 ((Below.refl base w).grown h2 hbase (fun k hk=>(hown.lt k hk).1)))
theorem owns_bts {w:World} {base n:Nat} {v:Value} {zs:List Int} (h:w.ownsRow base 5 1 v n (zs.map (Value.int .u8))) (hz:∀ z ∈ zs,0≤z∧z≤255) (hn:n≤9223372036854775807) :
    ∃ ao cap,v=.slice ao n cap∧Bts w ao n zs:=by
  have hl:zs.length=n:=by have:=h.1;rw [List.length_map,Nat.mul_one] at this;exact this
  rcases Nat.eq_zero_or_pos n with h0 | h0
  · rcases h.2 with ⟨hv,_⟩ | ⟨g,cap,cur,hv,_⟩
    · exact ⟨none,0,by rw [hv,h0],hl,hn,hz,Or.inl h0⟩
    · exact ⟨_,cap,hv,hl,hn,hz,Or.inl h0⟩
  · obtain ⟨g,cap,hv,_,_⟩:=h.form h0
    rw [hv] at h
    refine ⟨_,cap,hv,hl,hn,hz,Or.inr ⟨g,0,rfl,fun j hj=>?_⟩⟩
    rw [Nat.zero_add,h.cellAt j (by omega)]
    simp [List.getD,hl,hj]
/-! Bytes that a call is handed,and hands back -/
def Arg (w:World) (ao:Option Addr) (len cap:Nat) (zs:List Int):Prop:=
  Bts w ao len zs∧(ao=none→len=0∧cap=0)∧len≤cap∧len≤140737488351232
theorem Arg.later {w wx:World} {ao:Option Addr} {len cap:Nat} {zs:List Int} (h:Arg w ao len cap zs) (hb:Below w.heap.size w wx):Arg wx ao len cap zs:=
  ⟨h.1.later hb,h.2⟩
def Fresh (w:World) (base:Nat) (v:Value) (l:List Int):Prop:=
  ∃ ao cap,v=.slice ao l.length cap∧Arg w ao l.length cap l∧(l=[]∨∃ g off,ao=some ⟨g,off,none⟩∧base≤g∧∀ j,j < l.length→w.frozen? ⟨g,off+j,none⟩=false)
theorem Fresh.nil (w:World) (base:Nat):Fresh w base (.slice none 0 0) []:=
  ⟨none,0,rfl,⟨⟨rfl,by decide,by simp,Or.inl rfl⟩,fun _=>⟨rfl,rfl⟩,Nat.le_refl _,by decide⟩,Or.inl rfl⟩
theorem fresh_of_owns {w:World} {base n:Nat} {v:Value} {zs:List Int} (h:w.ownsRow base 5 1 v n (zs.map (Value.int .u8))) (hz:∀ z ∈ zs,0≤z∧z≤255) (hn:n≤140737488351232):Fresh w base v zs:=by
  have hl:zs.length=n:=by have:=h.1;rw [List.length_map,Nat.mul_one] at this;exact this
  rcases h.2 with ⟨hv,h0⟩ | ⟨g,cap,cur,hv,hg,_,hc,_⟩
  · have:zs=[]:=List.length_eq_zero_iff.1 (by rw [hl,h0])
    subst this
    rw [hv]
    exact Fresh.nil w base
  · obtain ⟨ao,cap',hv',hB⟩:=owns_bts h hz (by omega)
    rw [hv] at hv'
    simp only [Value.slice.injEq,true_and] at hv'
    obtain ⟨rfl,rfl⟩:=hv'
    refine ⟨_,cap,by rw [hl];exact hv,⟨by rw [hl];exact hB,(fun h=>by cases h),by rw [hl];exact hc,by rw [hl];exact hn⟩,Or.inr ⟨g,0,rfl,hg,fun j _=>?_⟩⟩
    rw [hv] at h;rw [Nat.zero_add];exact h.frozenAt j
theorem Fresh.later {w wx:World} {base:Nat} {v:Value} {l:List Int} (h:Fresh w base v l) (hb:Below w.heap.size w wx):Fresh wx base v l:=by
  obtain ⟨ao,cap,hv,hB,hf⟩:=h
  refine ⟨ao,cap,hv,hB.later hb,?_⟩
  have hB:=hB.1
  rcases hf with h0 | ⟨g,off,he,hg,hfr⟩
  · exact Or.inl h0
  · refine Or.inr ⟨g,off,he,hg,fun j hj=>?_⟩
    rcases hB.2.2.2 with h0 | ⟨b,o,he',hc⟩
    · omega
    · rw [he] at he'
      simp only [Option.some.injEq,Addr.mk.injEq,and_true] at he'
      obtain ⟨rfl,rfl⟩:=he'
      have hlt:=World.block_lt_of_cell? _ _ (hc j hj)
      rw [hb.frozen (p:=⟨g,off+j,none⟩) hlt]
      exact hfr j hj
def str (l:List Int):ByteArray:=l.foldl (fun r n=>r.push (UInt8.ofNat n.toNat)) ByteArray.empty
theorem str_bytes {w:World} {ao:Option Addr} {len cap:Nat} {zs:List Int} (h:Bts w ao len zs) :
    (convert 44 9 (.slice ao len cap)).run Tryz.prog w=.ok (.string (str zs)) w:=by
  rw [run_convert_bytes_string w 44 9 5 ao len cap Tryz.underlying44 Tryz.underlying5 Tryz.underlying9]
  cases ao with
  | none=>
    have hz:zs=[]:=by
      rcases h.2.2.2 with h0 | ⟨b,off,he,_⟩
      · exact List.length_eq_zero_iff.1 (by rw [h.1,h0])
      · cases he
    subst hz
    rfl
  | some ad=>
    have hl:(zs.map (Value.int .u8)).length=len:=by rw [List.length_map,h.1]
    have hrun:=run_loadCells_list (P:=Tryz.prog) w ad (zs.map (Value.int .u8)) (bts_news h rfl)
    rw [hl] at hrun
    exact run_bytesToString w ad len cap zs hrun
theorem push_toList (s:ByteArray) (b:UInt8):(s.push b).data.toList=s.data.toList ++ [b]:=by
  cases s;simp [ByteArray.push]
theorem str_data (l:List Int):(str l).data.toList=l.map (fun n=>UInt8.ofNat n.toNat):=by
  have gen:∀ (l:List Int) (s:ByteArray),(l.foldl (fun r n=>r.push (UInt8.ofNat n.toNat)) s).data.toList=s.data.toList ++ l.map (fun n=>UInt8.ofNat n.toNat):=by
    intro l
    induction l with
    | nil=>intro s;simp
    | cons x l ih=>intro s;rw [List.foldl_cons,ih,push_toList];simp
  unfold str
  rw [gen]
  simp
theorem byte_inj {a b:Int} (ha:0≤a∧a≤255) (hb:0≤b∧b≤255) (h:UInt8.ofNat a.toNat=UInt8.ofNat b.toNat):a=b:=by
  have h':=congrArg UInt8.toNat h
  simp only [UInt8.toNat_ofNat'] at h'
  omega
theorem map_byte_inj:∀ {l m:List Int},(∀ z ∈ l,0≤z∧z≤255)→(∀ z ∈ m,0≤z∧z≤255)→l.map (fun n=>UInt8.ofNat n.toNat)=m.map (fun n=>UInt8.ofNat n.toNat)→l=m
  | [],[],_,_,_=>rfl
  | [],_::_,_,_,h=>by simp at h
  | _::_,[],_,_,h=>by simp at h
  | a::l,b::m,hl,hm,h=>by
    simp only [List.map_cons,List.cons.injEq] at h
    rw [byte_inj (hl a (by simp)) (hm b (by simp)) h.1,map_byte_inj (fun z hz=>hl z (List.mem_cons_of_mem _ hz)) (fun z hz=>hm z (List.mem_cons_of_mem _ hz)) h.2]
theorem str_eq {l m:List Int} (hl:∀ z ∈ l,0≤z∧z≤255) (hm:∀ z ∈ m,0≤z∧z≤255):((str l).toList == (str m).toList)=decide (l=m):=by
  rw [Go.ByteArray.toList_eq,Go.ByteArray.toList_eq,str_data,str_data,Bool.eq_iff_iff,beq_iff_eq,decide_eq_true_iff]
  exact ⟨fun h=>map_byte_inj hl hm h,fun h=>by rw [h]⟩
def Handed (base:Nat) (w0:World) (l:List Int) (err:Int) (e:Ending) (w':World):Prop:=
  ∃ v,e=.returned (.tuple #[v,.int .i64 err])∧Fresh w' base v l∧Below base w0 w'
def Own (base:Nat) (w0:World) (g:Nat) (L:List Int) (wr:World):Prop:=
  (∀ z ∈ L,0≤z∧z≤255)∧(∀ j,j < L.length→wr.cell? ⟨g,j,none⟩=some (.int .u8 (L.getD j 0)))∧(∀ j,wr.frozen? ⟨g,j,none⟩=false)∧base≤g∧Below base w0 wr
theorem Own.store {base g k:Nat} {w0 wr:World} {L:List Int} {y:Int} (h:Own base w0 g L wr) (hk:k < L.length) (hy:0≤y∧y≤255):Own base w0 g (L.set k y) (wr.setCell ⟨g,k,none⟩ (.int .u8 y)):=by
  obtain ⟨h1,h2,h3,h4,h5⟩:=h
  refine ⟨mem_set h1 hy,fun j hj=>?_,fun j=>by simpa using h3 j,h4,h5.setCell (p:=⟨g,k,none⟩) h4 _⟩
  rw [List.length_set] at hj
  rw [getD_set _ _ _ _ hk]
  by_cases h:j=k
  · subst h
    rw [if_pos rfl]
    exact World.cell?_setCell_same wr _ _ (h2 j hj)
  · rw [if_neg h,World.cell?_setCell_other (h:=by intro e;exact h (by simpa using e.symm))]
    exact h2 j hj
theorem Own.bts {base g:Nat} {w0 wr:World} {L:List Int} (h:Own base w0 g L wr) (hl:L.length≤9223372036854775807):Bts wr (some ⟨g,0,none⟩) L.length L:=
  ⟨rfl,hl,h.1,Or.inr ⟨g,0,rfl,fun j hj=>by rw [Nat.zero_add];exact h.2.1 j hj⟩⟩
theorem Own.fresh {base g:Nat} {w0 wr:World} {L:List Int} (h:Own base w0 g L wr) (hl:L.length≤140737488351232) {cap:Nat} (hc:L.length≤cap):Fresh wr base (.slice (some ⟨g,0,none⟩) L.length cap) L:=
  ⟨_,cap,rfl,⟨h.bts (by omega),(fun h=>by cases h),hc,hl⟩,Or.inr ⟨g,0,rfl,h.2.2.2.1,fun j _=>by rw [Nat.zero_add];exact h.2.2.1 j⟩⟩
theorem one_bts (w:World) (x:Int) (hx:0≤x∧x≤255):Bts (w.alloc (.cells #[.int .u8 x] 5)) (some ⟨w.heap.size,0,none⟩) 1 [x]:=
  ⟨rfl,by decide,by simpa using hx,Or.inr ⟨_,_,rfl,fun j hj=>by
    obtain rfl:j=0:=by omega
    exact cell_one_new w (.int .u8 x) 5 0 _ rfl⟩⟩
theorem owns_take {w:World} {base g n cap k:Nat} {xs:List Value} (h:w.ownsRow base 5 1 (.slice (some ⟨g,0,none⟩) n cap) n xs) (hk:k≤n):w.ownsRow base 5 1 (.slice (some ⟨g,0,none⟩) k cap) k (xs.take k):=by
  obtain ⟨hl,h⟩:=h
  refine ⟨by rw [List.length_take];omega,?_⟩
  rcases h with ⟨h,_⟩ | ⟨g',cap',cur,h,hb,hg,hc,hm,hs,ht⟩
  · cases h
  · simp only [Value.slice.injEq,Option.some.injEq,Addr.mk.injEq,and_true,true_and] at h
    obtain ⟨rfl,rfl⟩:=h
    refine Or.inr ⟨g,cap,cur,rfl,hb,hg,by omega,hm,hs,?_⟩
    rw [← ht,List.take_take,Nat.mul_one,Nat.mul_one,Nat.min_eq_left hk]
theorem fresh_str {w:World} {base:Nat} {v:Value} {l:List Int} (h:Fresh w base v l):(convert 44 9 v).run Tryz.prog w=.ok (.string (str l)) w:=by
  obtain ⟨ao,cap,hv,hB,_⟩:=h
  rw [hv]
  exact str_bytes hB.1
theorem run_make_bytes (w:World) (n:Nat) (hn:n≤140737488351232):(Instr.makeSlice 44 (.int .i64 (n:Int)) (.int .i64 (n:Int))).run Tryz.prog w =
    .ok (.slice (some ⟨w.heap.size,0,none⟩) n n) (w.alloc (.cells (madeCells #[.int .u8 0] n) 5)):=by
  obtain ⟨i0,hi,hz0,hz1,hz2⟩:=info_parts info5
  have h:=run_make (P:=Tryz.prog) w 44 5 i0 (.int .u8 0) Tryz.underlying44 hi hz0 .i64 .i64 (n:Int) (n:Int) (by omega) (Int.le_refl _) (by rw [hz2];omega) (by omega)
  simpa [hz1,Value.cells] using h
theorem made_cell (n j:Nat) (h:j < n):(madeCells #[Value.int .u8 0] n)[j]?=some (.int .u8 0):=by
  simp [madeCells,h,Nat.mod_one]
theorem made_arg (w:World) (n:Nat) (hn:n≤140737488351232):Arg (w.alloc (.cells (madeCells #[.int .u8 0] n) 5)) (some ⟨w.heap.size,0,none⟩) n n (List.replicate n 0):=by
  refine ⟨⟨by simp,by omega,fun z hz=>by rw [List.eq_of_mem_replicate hz];decide,Or.inr ⟨w.heap.size,0,rfl,fun j hj=>?_⟩⟩,(fun h=>by cases h),Nat.le_refl _,hn⟩
  rw [Nat.zero_add,World.cell?_alloc_new,made_cell n j hj]
  simp [List.getD,hj]
theorem Fresh.mono {w:World} {base base':Nat} {v:Value} {l:List Int} (h:Fresh w base' v l) (hb:base≤base'):Fresh w base v l:=by
  obtain ⟨ao,cap,hv,hA,hf⟩:=h
  refine ⟨ao,cap,hv,hA,?_⟩
  rcases hf with h0 | ⟨g,off,he,hg,hfr⟩
  · exact Or.inl h0
  · exact Or.inr ⟨g,off,he,Nat.le_trans hb hg,hfr⟩
def Gives (base:Nat) (w0:World) (l:List Int) (e:Ending) (w':World):Prop:=
  ∃ v,e=.returned v∧Fresh w' base v l∧Below base w0 w'
def Says (base:Nat) (w0:World) (b:Bool) (e:Ending) (w':World):Prop:=e=.returned (.bool b)∧Below base w0 w'
end Go.Proofs.YtcefmpnijjcekaaGreatDoor
namespace Go.Proofs.YtcefmpnijjcekaaGreatDoor
open Go.RowKit
def bytesOf (s:ByteArray):List Int:=s.data.toList.map fun b=>(b.toNat:Int)
theorem bytesOf_length (s:ByteArray):(bytesOf s).length=s.size:=by
  unfold bytesOf;rw [List.length_map];rfl
theorem bytesOf_bytes (s:ByteArray):∀ z ∈ bytesOf s,0≤z∧z≤255:=by
  intro z h
  obtain ⟨b,_,rfl⟩:=List.mem_map.1 h
  have:=b.toNat_lt
  omega
theorem strCells_bytes (s:ByteArray):Lib.strCells s=(bytesOf s).map (Value.int .u8):=by
  unfold Lib.strCells bytesOf
  rw [List.map_map]
  rfl
theorem bts_take {w:World} {b off len k:Nat} {zs:List Int} (h:Bts w (some ⟨b,off,none⟩) len zs) (hk:k≤len):Bts w (some ⟨b,off,none⟩) k (zs.take k):=by
  obtain ⟨h1,h2,h3,h4⟩:=h
  refine ⟨by rw [List.length_take];omega,by omega,fun z hz=>h3 z (List.mem_of_mem_take hz),?_⟩
  rcases h4 with h4 | ⟨b',o',he,hc⟩
  · exact Or.inl (by omega)
  · exact Or.inr ⟨b',o',he,fun j hj=>by rw [take_getD _ _ _ hj];exact hc j (by omega)⟩
theorem bts_drop {w:World} {b off len k:Nat} {zs:List Int} (h:Bts w (some ⟨b,off,none⟩) len zs) (hk:k≤len):Bts w (some ⟨b,off+k,none⟩) (len - k) (zs.drop k):=by
  obtain ⟨h1,h2,h3,h4⟩:=h
  refine ⟨by rw [List.length_drop];omega,by omega,fun z hz=>h3 z (List.mem_of_mem_drop hz),?_⟩
  rcases h4 with h4 | ⟨b',o',he,hc⟩
  · exact Or.inl (by omega)
  · simp only [Option.some.injEq,Addr.mk.injEq,and_true] at he
    obtain ⟨rfl,rfl⟩:=he
    refine Or.inr ⟨b,off+k,rfl,fun j hj=>?_⟩
    have:=hc (k+j) (by omega)
    rw [Nat.add_assoc,this]
    simp [List.getD]
section
variable {ops:Array Oper} {o:Oper} {a:Act} {w:World} {K:Act→World→Prop} {Q:Exit→Act→World→Prop} {E:Prop}
end
end Go.Proofs.YtcefmpnijjcekaaGreatDoor
namespace Go.Proofs.YtcefmpnijjcekaaGreatDoor
open Go.RowKit
def lay:List Int→Nat→List Int→List Int
  | L,_,[]=>L
  | L,off,c::r=>lay (L.set off c) (off+1) r
theorem lay_length:∀ (cs L:List Int) (off:Nat),(lay L off cs).length=L.length
  | [],_,_=>rfl
  | c::r,L,off=>by rw [lay,lay_length r,List.length_set]
theorem lay_snoc:∀ (cs L:List Int) (off:Nat) (c:Int),lay L off (cs ++ [c])=(lay L off cs).set (off+cs.length) c
  | [],L,off,c=>rfl
  | d::r,L,off,c=>by
    show lay (L.set off d) (off+1) (r ++ [c])=(lay (L.set off d) (off+1) r).set (off+(r.length+1)) c
    rw [lay_snoc r,show off+(r.length+1)=off+1+r.length by omega]
theorem lay_eq:∀ (cs L:List Int) (off:Nat),off+cs.length≤L.length→lay L off cs=L.take off ++ cs ++ L.drop (off+cs.length)
  | [],L,off,_=>by simp [lay]
  | c::r,L,off,h=>by
    have h':off+(r.length+1)≤L.length:=h
    rw [lay,lay_eq r _ _ (by rw [List.length_set];omega)]
    have h1:(L.set off c).take (off+1)=L.take off ++ [c]:=by
      rw [set_at L off c (by omega),List.take_append_of_le_length (by simp;omega)]
      exact List.take_of_length_le (by simp;omega)
    have h2:(L.set off c).drop (off+1+r.length)=L.drop (off+(r.length+1)):=by
      rw [List.drop_set_of_lt (by omega),show off+1+r.length=off+(r.length+1) by omega]
    rw [h1,h2]
    simp
theorem Own.fill {base g:Nat} {w0:World}:∀ (cs L:List Int) (off:Nat) (wr:World),Own base w0 g L wr→off+cs.length≤L.length→(∀ z ∈ cs,0≤z∧z≤255)→Own base w0 g (lay L off cs) (wr.setCells g off (cs.map (Value.int .u8)))
  | [],_,_,_,h,_,_=>h
  | c::r,L,off,wr,h,hl,hz=>by
    have hl':off+(r.length+1)≤L.length:=hl
    exact Own.fill r (L.set off c) (off+1) _ (h.store (by omega) (hz c (by simp))) (by rw [List.length_set];omega) (fun z hz'=>hz z (List.mem_cons_of_mem _ hz'))
theorem size5:(Tryz.prog.info? 5).map (·.size)=some 1:=by kernel_rfl
theorem own_copy_bytes {base g off len cap:Nat} {w0 w:World} {L:List Int} (hO:Own base w0 g L w) (hfit:off+len≤L.length) (ao:Option Addr) (m c:Nat) (zs:List Int) (hB:Bts w ao m zs) (hm:m≤len) (ty:TypeId) :
    ∃ v' w',(Builtin.copy_ #[44,44] ty #[.slice (some ⟨g,off,none⟩) len cap,.slice ao m c]).run Tryz.prog w=.ok v' w'∧v'=.int .i64 m∧Own base w0 g (lay L off zs) w':=by
  cases ao with
  | none=>
    have hz:zs=[]∧m=0:=by
      rcases hB.2.2.2 with h0 | ⟨b,o,he,_⟩
      · exact ⟨List.length_eq_zero_iff.1 (by rw [hB.1,h0]),h0⟩
      · cases he
    obtain ⟨rfl,rfl⟩:=hz
    exact ⟨_,_,run_copy_none (P:=Tryz.prog) w 44 44 ty 5 _ none len cap 0 c Tryz.underlying44 size5 (by simp),rfl,hO⟩
  | some ad=>
    have hl:(zs.map (Value.int .u8)).length=m:=by rw [List.length_map,hB.1]
    have hr:=run_copy_cells (P:=Tryz.prog) w 44 44 ty 5 g off len cap ad m c (zs.map (Value.int .u8)) Tryz.underlying44 size5 (by rw [hl];exact (Nat.min_eq_left hm).symm) (bts_news hB rfl)
      (fun j hj=>by rw [hO.2.1 (off+j) (by omega)];rfl) (fun j _=>hO.2.2.1 _) (one_cells zs)
    rw [hl] at hr
    exact ⟨_,_,hr,rfl,hO.fill zs L off w (by rw [hB.1];omega) hB.2.2.1⟩
theorem own_copy_text {base g off len cap:Nat} {w0 w:World} {L:List Int} (hO:Own base w0 g L w) (hfit:off+len≤L.length) (s:ByteArray) (hm:s.size≤len) (ty:TypeId) :
    ∃ v' w',(Builtin.copy_ #[44,9] ty #[.slice (some ⟨g,off,none⟩) len cap,.string s]).run Tryz.prog w=.ok v' w'∧v'=.int .i64 s.size∧Own base w0 g (lay L off (bytesOf s)) w':=by
  have hmin:Nat.min s.size len=s.size:=Nat.min_eq_left hm
  have hl:(Lib.strCells s).length=s.size:=Lib.strCells_length s
  have hst:=run_storeCells_cells (P:=Tryz.prog) g off (Lib.strCells s) 0 w (fun j hj=>by rw [Nat.add_zero,hO.2.1 (off+j) (by omega)];rfl) (fun j _=>hO.2.2.1 _) (Lib.strCells_oneCell s)
  rw [Nat.add_zero] at hst
  refine ⟨.int .i64 s.size,w.setCells g off (Lib.strCells s),?_,rfl,?_⟩
  · obtain ⟨i,hq,hi⟩:=Option.map_eq_some_iff.1 size5
    have hf:(Builtin.firstCells 1 s.size (.string s)).run Tryz.prog w=.ok (Lib.strCells s).toArray w:=Lib.run_firstCells_string (P:=Tryz.prog) w 1 s
    simp [Builtin.copy_,run_underlying Tryz.underlying44,Builtin.lenOf,sizeOf,typeInfo,hq,hi,hmin,hf,hst,Result.andThen]
    rfl
  · rw [strCells_bytes]
    exact hO.fill (bytesOf s) L off w (by rw [bytesOf_length];omega) (bytesOf_bytes s)
theorem wp_copy {ops:Array Oper} {rest:List Oper} {o:Oper} {a:Act} {Q:Exit→Act→World→Prop} {w:World} (hgd:o.guard=none) (d s:Operand) (dT sT:TypeId)
    (ho:o.op=.call { callee:=.builtin .copy,args:=#[d,s],argTypes:=#[dT,sT] }) (v u:Value) (hd:a.eval d=v) (hs:a.eval s=u) (R:Value→World→Prop)
    (hr:∃ v' w',(Builtin.copy_ #[dT,sT] o.type #[v,u]).run Tryz.prog w=.ok v' w'∧R v' w') (h:∀ v' w',R v' w'→wpList Tryz.prog ops Q rest (a.put o.dst v') w'):wpList Tryz.prog ops Q (o::rest) a w:=by
  obtain ⟨v',w',hrun,hR⟩:=hr
  refine wpList_plain hgd fun K hK=>?_
  unfold Oper.wp
  simp [execOp,ho,resolve,invoke,builtin,hd,hs,hrun,Result.andThen]
  exact hK _ _ (h v' w' hR)
theorem made_own (w:World) (n:Nat):Own w.heap.size w w.heap.size (List.replicate n 0) (w.alloc (.cells (madeCells #[.int .u8 0] n) 5)):=by
  refine ⟨fun z hz=>by rw [List.eq_of_mem_replicate hz];decide,fun j hj=>?_,fun j=>?_,Nat.le_refl _,(Below.refl _ _).alloc (Nat.le_refl _) _⟩
  · rw [List.length_replicate] at hj
    rw [World.cell?_alloc_new,made_cell n j hj]
    simp [List.getD,hj]
  · rw [World.frozen?_alloc_mark];simp
theorem bytesOf_str {l:List Int} (h:∀ z ∈ l,0≤z∧z≤255):bytesOf (str l)=l:=by
  unfold bytesOf
  rw [str_data,List.map_map]
  conv=>rhs;rw [← List.map_id l]
  refine List.map_congr_left (fun z hz=>?_)
  have:=h z hz
  simp only [Function.comp,UInt8.toNat_ofNat',id]
  omega
theorem str_size (l:List Int):(str l).size=l.length:=by
  have h:=congrArg List.length (str_data l)
  rw [List.length_map,Array.length_toList] at h
  exact h
end Go.Proofs.YtcefmpnijjcekaaGreatDoor
namespace Go.Proofs.YtcefmpnijjcekaaGreatDoor
open Go.RowKit
def Vals (w:World) (ao:Option Addr) (len:Nat) (xs:List Value):Prop:=
  xs.length=len∧len≤140737488351232∧(len=0∨∃ b off,ao=some ⟨b,off,none⟩∧∀ j x,xs[j]?=some x→w.cell? ⟨b,off+j,none⟩=some x)
theorem Vals.later {w wx:World} {ao:Option Addr} {len:Nat} {xs:List Value} (h:Vals w ao len xs) (hb:Below w.heap.size w wx):Vals wx ao len xs:=by
  obtain ⟨h1,h2,h3⟩:=h
  refine ⟨h1,h2,?_⟩
  rcases h3 with h3 | ⟨b,off,rfl,hc⟩
  · exact Or.inl h3
  · exact Or.inr ⟨b,off,rfl,fun j x hj=>cell_later hb (hc j x hj)⟩
def FreshV (w:World) (base:Nat) (v:Value) (xs:List Value):Prop:=
  ∃ ao cap,v=.slice ao xs.length cap∧Vals w ao xs.length xs∧xs.length≤cap∧(xs=[]∨∃ g,ao=some ⟨g,0,none⟩∧base≤g∧∀ j,w.frozen? ⟨g,j,none⟩=false)
theorem FreshV.later {w wx:World} {base:Nat} {v:Value} {xs:List Value} (h:FreshV w base v xs) (hb:Below w.heap.size w wx):FreshV wx base v xs:=by
  obtain ⟨ao,cap,hv,hB,hcap,hf⟩:=h
  refine ⟨ao,cap,hv,hB.later hb,hcap,?_⟩
  rcases hf with h0 | ⟨g,he,hg,hfr⟩
  · exact Or.inl h0
  · by_cases hx:xs=[]
    · exact Or.inl hx
    · refine Or.inr ⟨g,he,hg,fun j=>?_⟩
      have hpos:0 < xs.length:=List.length_pos_iff.2 hx
      rcases hB.2.2 with h0 | ⟨b,o,he',hc⟩
      · omega
      · rw [he] at he'
        simp only [Option.some.injEq,Addr.mk.injEq,and_true] at he'
        obtain ⟨rfl,rfl⟩:=he'
        have hlt:=World.block_lt_of_cell? _ _ (hc 0 xs[0] (List.getElem?_eq_getElem hpos))
        rw [hb.frozen (p:=⟨g,j,none⟩) hlt]
        exact hfr j
theorem FreshV.mono {w:World} {base base':Nat} {v:Value} {xs:List Value} (h:FreshV w base' v xs) (hb:base≤base'):FreshV w base v xs:=by
  obtain ⟨ao,cap,hv,hA,hc,hf⟩:=h
  refine ⟨ao,cap,hv,hA,hc,?_⟩
  rcases hf with h0 | ⟨g,he,hg,hfr⟩
  · exact Or.inl h0
  · exact Or.inr ⟨g,he,Nat.le_trans hb hg,hfr⟩
theorem FreshV.nil (w:World) (base:Nat):FreshV w base (.slice none 0 0) []:=
  ⟨none,0,rfl,⟨rfl,by decide,Or.inl rfl⟩,Nat.le_refl _,Or.inl rfl⟩
theorem owns_vals {w:World} {base n:Nat} {e:TypeId} {v:Value} {xs:List Value} (h:w.ownsRow base e 1 v n xs) (hn:n≤140737488351232):FreshV w base v xs:=by
  have hl:xs.length=n:=by have:=h.1;rw [Nat.mul_one] at this;exact this
  rcases h.2 with ⟨hv,h0⟩ | ⟨g,cap,cur,hv,hg,_,hc,_⟩
  · have:xs=[]:=List.length_eq_zero_iff.1 (by rw [hl,h0])
    subst this
    rw [hv]
    exact FreshV.nil w base
  · rw [hv] at h
    refine ⟨some ⟨g,0,none⟩,cap,by rw [hl];exact hv,⟨rfl,by rw [hl];exact hn,?_⟩,by rw [hl];exact hc,Or.inr ⟨g,rfl,hg,fun j=>h.frozenAt j⟩⟩
    refine Or.inr ⟨g,0,rfl,fun j x hj=>?_⟩
    have hjl:=(List.getElem?_eq_some_iff.1 hj).1
    rw [Nat.zero_add,h.cellAt j (by omega)]
    simpa using hj
def OwnV (base:Nat) (w0:World) (g:Nat) (xs:List Value) (wr:World):Prop:=
  (∀ j x,xs[j]?=some x→wr.cell? ⟨g,j,none⟩=some x)∧(∀ j,wr.frozen? ⟨g,j,none⟩=false)∧base≤g∧Below base w0 wr
theorem OwnV.store {base g k:Nat} {w0 wr:World} {xs:List Value} {y:Value} (h:OwnV base w0 g xs wr) (hk:k < xs.length):OwnV base w0 g (xs.set k y) (wr.setCell ⟨g,k,none⟩ y):=by
  obtain ⟨h1,h2,h3,h4⟩:=h
  refine ⟨fun j x hj=>?_,fun j=>by simpa using h2 j,h3,h4.setCell (p:=⟨g,k,none⟩) h3 _⟩
  rw [List.getElem?_set] at hj
  by_cases e:k=j
  · subst e
    rw [if_pos rfl,if_pos hk] at hj
    cases hj
    exact World.cell?_setCell_same wr _ _ (h1 k xs[k] (List.getElem?_eq_getElem hk))
  · rw [if_neg e] at hj
    rw [World.cell?_setCell_other (h:=by intro e';cases e';exact e rfl)]
    exact h1 j x hj
theorem OwnV.later {base g:Nat} {w0 wr wx:World} {xs:List Value} (h:OwnV base w0 g xs wr) (hb:Below wr.heap.size wr wx) (h0:xs≠[]):OwnV base w0 g xs wx:=by
  obtain ⟨h1,h2,h3,h4⟩:=h
  have hpos:0 < xs.length:=List.length_pos_iff.2 h0
  have hlt:=World.block_lt_of_cell? _ _ (h1 0 xs[0] (List.getElem?_eq_getElem hpos))
  refine ⟨fun j x hj=>cell_later hb (h1 j x hj),fun j=>?_,h3,h4.trans (hb.mono (Nat.le_of_lt (Nat.lt_of_le_of_lt h3 hlt)))⟩
  rw [hb.frozen (p:=⟨g,j,none⟩) hlt]
  exact h2 j
theorem ownV_of_fresh {base:Nat} {w0 w:World} {v:Value} {xs:List Value} (h:FreshV w base v xs) (hb:Below base w0 w) (h0:xs≠[]):∃ g cap,v=.slice (some ⟨g,0,none⟩) xs.length cap∧xs.length≤cap∧OwnV base w0 g xs w:=by
  obtain ⟨ao,cap,hv,hB,hcap,hf⟩:=h
  obtain ⟨g,rfl,hg,hfr⟩:=hf.resolve_left h0
  obtain ⟨b,o,he,hc⟩:=hB.2.2.resolve_left (by have:=List.length_pos_iff.2 h0;omega)
  simp only [Option.some.injEq,Addr.mk.injEq,and_true] at he
  obtain ⟨rfl,rfl⟩:=he
  exact ⟨g,cap,hv,hcap,fun j x hj=>by have:=hc j x hj;rwa [Nat.zero_add] at this,hfr,hg,hb⟩
def Elem (t e:TypeId) (z:Value) (nb:Nat):Prop:=
  Tryz.prog.underlying t=some (.slice e)∧(Tryz.prog.info? e).map (fun i=>(i.zero,i.size,i.bytes))=some (some z,1,nb)∧z.cells.size=1∧nb≤16
theorem run_append_one {t e:TypeId} {z:Value} {nb:Nat} (hE:Elem t e z nb) (w:World) (ty:TypeId) (base n:Nat) (v:Value) (xs:List Value) (hown:w.ownsRow base e 1 v n xs) (ad:Addr) (c:Nat) (x:Value)
    (hx:w.cell? ad=some x) (h1:x.oneCell'=true) (hp:ad.spot=none) (hb:n≤100000) (hbase:base≤w.heap.size) :
    ∃ v' w',(Builtin.append_ #[t,t] ty #[v,.slice (some ad) 1 c]).run Tryz.prog w=.ok v' w'∧w'.ownsRow base e 1 v' (n+1) (xs ++ [x])∧Below base w w':=by
  obtain ⟨hu,hi,hz,hnb⟩:=hE
  obtain ⟨i0,hi0,hz0,hz1,hz2⟩:=info_parts hi
  obtain ⟨v',w',h1,h2,h3,_⟩:=run_append_own (P:=Tryz.prog) w base t ty e i0 z 1 nb hu hi0 hz0 hz1 hz2 hz (by decide) v n xs hown ad 1 c [x] rfl (fun j u hj=>by
      match j,hj with
      | 0,hj=>
        simp at hj
        subst hj
        have e0:ad.add 0=ad:=by cases ad;simp only at hp;subst hp;rfl
        rw [e0];exact hx
      | j+1,hj=>simp at hj) (by simpa using h1)
      (by unfold maxLen; omega) (by have:(n+1) * nb≤100001 * 16:=Nat.mul_le_mul (by omega) hnb
                                    omega) hbase
  exact ⟨v',w',h1,h2,(Below.refl base w).grown h3 hbase (fun k hk=>(hown.lt k hk).1)⟩
section
variable {ops:Array Oper} {rest:List Oper} {o:Oper} {a:Act} {w:World} {K:Act→World→Prop} {Q:Exit→Act→World→Prop} {E:Prop}
theorem wp_append_one {t e:TypeId} {z:Value} {nb:Nat} (hE:Elem t e z nb) (hgd:o.guard=none) (s y:Operand) (ho:o.op=.call { callee:=.builtin .append,args:=#[s,y],argTypes:=#[t,t] })
    (base n:Nat) (v:Value) (xs:List Value) (hs:a.eval s=v) (hown:w.ownsRow base e 1 v n xs) (ad:Addr) (c:Nat) (x:Value) (hy:a.eval y=.slice (some ad) 1 c)
    (hx:w.cell? ad=some x) (h1:x.oneCell'=true) (hp:ad.spot=none) (hb:n≤100000) (hbase:base≤w.heap.size)
    (h:∀ v' w',w'.ownsRow base e 1 v' (n+1) (xs ++ [x])→Below base w w'→wpList Tryz.prog ops Q rest (a.put o.dst v') w'):wpList Tryz.prog ops Q (o::rest) a w:=by
  obtain ⟨v',w',hrun,h2,h3⟩:=run_append_one hE w o.type base n v xs hown ad c x hx h1 hp hb hbase
  refine wpList_plain hgd fun K hK=>?_
  unfold Oper.wp
  simp [execOp,ho,resolve,invoke,builtin,hs,hy,hrun,Result.andThen]
  exact hK _ _ (h v' w' h2 h3)
theorem step_append_one {t e:TypeId} {z:Value} {nb:Nat} (hE:Elem t e z nb) (hgd:o.guard=none) (s y:Operand) (ho:o.op=Op.call { callee:=Callee.builtin Builtin.append,args:=#[s,y],argTypes:=#[t,t] })
    (base n:Nat) (v:Value) (xs:List Value) (hs:a.eval s=v) (hown:w.ownsRow base e 1 v n xs) (ad:Addr) (c:Nat) (x:Value) (hy:a.eval y=.slice (some ad) 1 c)
    (hx:w.cell? ad=some x) (h1:x.oneCell'=true) (hp:ad.spot=none) (hb:n≤100000) (hbase:base≤w.heap.size)
    (hK:∀ v' w',w'.ownsRow base e 1 v' (n+1) (xs ++ [x])→Below base w w'→K (a.put o.dst v') w') :
    if Region.wanted o (yielded ops a.tmps)=true then Oper.wp Tryz.prog o a w K Q else E:=by
  have hw:Region.wanted o (yielded ops a.tmps)=true:=by simp [Region.wanted,hgd]
  rw [if_pos hw]
  obtain ⟨v',w',hrun,h2,h3⟩:=run_append_one hE w o.type base n v xs hown ad c x hx h1 hp hb hbase
  unfold Oper.wp
  simp [execOp,ho,resolve,invoke,builtin,hs,hy,hrun,Result.andThen]
  exact hK v' w' h2 h3
end
theorem owns_later {w w':World} {base n:Nat} {e:TypeId} {v:Value} {xs:List Value} (h:w.ownsRow base e 1 v n xs) (hb:Below w.heap.size w w'):w'.ownsRow base e 1 v n xs:=
  h.kept (row:=none) ⟨hb.os,hb.tape,hb.output,hb.size,fun k hk _=>hb.block k hk⟩ (by cases v.ownBlock <;> simp)
theorem run_make_vals {t e:TypeId} {z:Value} {nb:Nat} (hE:Elem t e z nb) (w:World) (n:Nat) (hn:n≤100000):(Instr.makeSlice t (.int .i64 (n:Int)) (.int .i64 (n:Int))).run Tryz.prog w =
    .ok (.slice (some ⟨w.heap.size,0,none⟩) n n) (w.alloc (.cells (madeCells z.cells n) e)):=by
  obtain ⟨hu,hi,hz,hnb⟩:=hE
  obtain ⟨i0,hi0,hz0,hz1,hz2⟩:=info_parts hi
  have h:=run_make (P:=Tryz.prog) w t e i0 z hu hi0 hz0 .i64 .i64 (n:Int) (n:Int) (by omega) (Int.le_refl _) (by
    rw [hz2]
    have:(nb:Int) * (n:Int)≤16 * 100000:=Int.mul_le_mul (by omega) (by omega) (by omega) (by omega)
    omega) (by omega)
  simpa [hz1] using h
theorem one_cell_new (w:World) (x:Value) (t:TypeId):(w.alloc (.cells #[x] t)).cell? ⟨w.heap.size,0,none⟩=some x:=by
  rw [World.cell?_alloc_new]
  rfl
end Go.Proofs.YtcefmpnijjcekaaGreatDoor
namespace Go.Proofs.YtcefmpnijjcekaaGreatDoor
open Go.RowKit
def ints (l:List Int):List Value:=l.map (Value.int .i64)
theorem ints_length (l:List Int):(ints l).length=l.length:=by unfold ints;simp
theorem ints_get {l:List Int} {i:Nat} {x:Int} (h:l[i]?=some x):(ints l)[i]?=some (.int .i64 x):=by unfold ints;rw [List.getElem?_map,h];rfl
theorem ints_one (l:List Int):∀ u ∈ ints l,u.oneCell'=true:=by
  intro u hu
  unfold ints at hu
  obtain ⟨x,_,rfl⟩:=List.mem_map.1 hu
  rfl
theorem ints_append (a b:List Int):ints (a ++ b)=ints a ++ ints b:=by unfold ints;simp
theorem ints_set (l:List Int) (i:Nat) (x:Int):ints (l.set i x)=(ints l).set i (.int .i64 x):=by unfold ints;rw [List.map_set]
theorem ints_take (l:List Int) (k:Nat):ints (l.take k)=(ints l).take k:=by unfold ints;rw [List.map_take]
theorem ints_drop (l:List Int) (k:Nat):ints (l.drop k)=(ints l).drop k:=by unfold ints;rw [List.map_drop]
def I64 (z:Int):Prop:=-9223372036854775808≤z∧z≤9223372036854775807
def IArg (w:World) (ao:Option Addr) (len cap:Nat) (zs:List Int):Prop:=
  Vals w ao len (ints zs)∧(∀ z ∈ zs,I64 z)∧(ao=none→len=0∧cap=0)∧len≤cap
theorem IArg.len {w:World} {ao:Option Addr} {len cap:Nat} {zs:List Int} (h:IArg w ao len cap zs):zs.length=len:=by have:=h.1.1;rwa [ints_length] at this
theorem IArg.big {w:World} {ao:Option Addr} {len cap:Nat} {zs:List Int} (h:IArg w ao len cap zs):len≤140737488351232:=h.1.2.1
theorem IArg.later {w wx:World} {ao:Option Addr} {len cap:Nat} {zs:List Int} (h:IArg w ao len cap zs) (hb:Below w.heap.size w wx):IArg wx ao len cap zs:=⟨h.1.later hb,h.2⟩
theorem IArg.drew {w:World} {ao:Option Addr} {len cap:Nat} {zs:List Int} (h:IArg w ao len cap zs):IArg w.drew ao len cap zs:=h.later (Below.refl _ _).drew
theorem IArg.nil (w:World):IArg w none 0 0 []:=⟨⟨rfl,by decide,Or.inl rfl⟩,by simp,fun _=>⟨rfl,rfl⟩,Nat.le_refl _⟩
theorem IArg.at {w:World} {ao:Option Addr} {len cap i:Nat} {zs:List Int} (h:IArg w ao len cap zs) (hi:i < len) :
    ∃ b off x,ao=some ⟨b,off,none⟩∧zs[i]?=some x∧w.cell? ⟨b,off+i,none⟩=some (.int .i64 x)∧I64 x:=by
  obtain ⟨b,off,rfl,hc⟩:=h.1.2.2.resolve_left (by omega)
  have hx:zs[i]?=some (zs[i]'(by rw [h.len];exact hi)):=List.getElem?_eq_getElem (by rw [h.len];exact hi)
  exact ⟨b,off,_,rfl,hx,hc i _ (ints_get hx),h.2.1 _ (List.getElem_mem _)⟩
theorem IArg.news {w:World} {ad:Addr} {len cap:Nat} {zs:List Int} (h:IArg w (some ad) len cap zs):∀ j u,(ints zs)[j]?=some u→w.cell? (ad.add j)=some u:=by
  intro j u hu
  have hj:=(List.getElem?_eq_some_iff.1 hu).1
  rw [ints_length,h.len] at hj
  obtain ⟨b,off,he,hc⟩:=h.1.2.2.resolve_left (by omega)
  cases he
  rw [Go.WideShapes.add_plain]
  exact hc j u hu
theorem IArg.take {w:World} {b off len cap k:Nat} {zs:List Int} (h:IArg w (some ⟨b,off,none⟩) len cap zs) (hk:k≤len):IArg w (some ⟨b,off,none⟩) k cap (zs.take k):=by
  have hl:=h.len
  have hb:=h.big
  have hc:=h.2.2.2
  refine ⟨⟨by rw [ints_length,List.length_take];omega,by omega,?_⟩,fun z hz=>h.2.1 z (List.mem_of_mem_take hz),(fun e=>by cases e),by omega⟩
  by_cases h0:k=0
  · exact Or.inl h0
  · obtain ⟨b',o',he,hc⟩:=h.1.2.2.resolve_left (by omega)
    refine Or.inr ⟨b',o',he,fun j x hj=>hc j x ?_⟩
    rw [ints_take] at hj
    rw [List.getElem?_take] at hj
    split at hj
    · exact hj
    · cases hj
theorem IArg.drop {w:World} {b off len cap k:Nat} {zs:List Int} (h:IArg w (some ⟨b,off,none⟩) len cap zs) (hk:k≤len):IArg w (some ⟨b,off+k,none⟩) (len - k) (cap - k) (zs.drop k):=by
  have hl:=h.len
  have hb:=h.big
  have hc:=h.2.2.2
  refine ⟨⟨by rw [ints_length,List.length_drop];omega,by omega,?_⟩,fun z hz=>h.2.1 z (List.mem_of_mem_drop hz),(fun e=>by cases e),by omega⟩
  by_cases h0:len - k=0
  · exact Or.inl h0
  · obtain ⟨b',o',he,hc⟩:=h.1.2.2.resolve_left (by omega)
    simp only [Option.some.injEq,Addr.mk.injEq,and_true] at he
    obtain ⟨rfl,rfl⟩:=he
    refine Or.inr ⟨b,off+k,rfl,fun j x hj=>?_⟩
    rw [ints_drop,List.getElem?_drop] at hj
    rw [Nat.add_assoc]
    exact hc _ x hj
theorem iarg_of_range {w:World} {b off cap:Nat} {zs:List Int} (h:w.rangeAt b off (ints zs)) (hz:∀ z ∈ zs,I64 z) (hl:zs.length≤140737488351232) (hc:zs.length≤cap):IArg w (some ⟨b,off,none⟩) zs.length cap zs:=
  ⟨⟨ints_length zs,hl,Or.inr ⟨b,off,rfl,h⟩⟩,hz,(fun e=>by cases e),hc⟩
theorem elemI:Elem 31 3 (.int .i64 0) 8:=⟨Tryz.underlying31,by kernel_rfl,rfl,by decide⟩
def FreshI (w:World) (base:Nat) (v:Value) (zs:List Int):Prop:=
  ∃ ao cap,v=.slice ao zs.length cap∧IArg w ao zs.length cap zs∧(zs=[]∨∃ g off,ao=some ⟨g,off,none⟩∧base≤g)
theorem FreshI.later {w wx:World} {base:Nat} {v:Value} {zs:List Int} (h:FreshI w base v zs) (hb:Below w.heap.size w wx):FreshI wx base v zs:=by
  obtain ⟨ao,cap,h1,h2,h3⟩:=h
  exact ⟨ao,cap,h1,h2.later hb,h3⟩
theorem FreshI.mono {w:World} {base base':Nat} {v:Value} {zs:List Int} (h:FreshI w base' v zs) (hb:base≤base'):FreshI w base v zs:=by
  obtain ⟨ao,cap,h1,h2,h3⟩:=h
  exact ⟨ao,cap,h1,h2,h3.imp_right (fun ⟨g,off,e,hg⟩=>⟨g,off,e,Nat.le_trans hb hg⟩)⟩
theorem FreshI.nil (w:World) (base:Nat):FreshI w base (.slice none 0 0) []:=⟨none,0,rfl,IArg.nil w,Or.inl rfl⟩
theorem fresh_of_ints {w:World} {base n:Nat} {v:Value} {zs:List Int} (h:w.ownsRow base 3 1 v n (ints zs)) (hz:∀ z ∈ zs,I64 z) (hn:n≤140737488351232):FreshI w base v zs:=by
  have hl:zs.length=n:=by have:=h.1;rw [ints_length,Nat.mul_one] at this;exact this
  rcases h.2 with ⟨hv,h0⟩ | ⟨g,cap,cur,hv,hg,_,hc,_⟩
  · obtain rfl:zs=[]:=List.length_eq_zero_iff.1 (by rw [hl,h0])
    rw [hv]
    exact FreshI.nil w base
  · rw [hv] at h
    refine ⟨_,cap,by rw [hl];exact hv,?_,Or.inr ⟨g,0,rfl,hg⟩⟩
    refine iarg_of_range (fun j u hj=>?_) hz (by omega) (by omega)
    have:=h.cells rfl j u hj
    rwa [Go.WideShapes.add_plain] at this
/-! ### Rows of elements of any number of cells -/
def ElemR (t e:TypeId) (z:Value) (sz nb:Nat):Prop:=
  Tryz.prog.underlying t=some (.slice e)∧(Tryz.prog.info? e).map (fun i=>(i.zero,i.size,i.bytes))=some (some z,sz,nb)∧z.cells.size=sz∧0 < sz∧nb≤64
section
variable {ops:Array Oper} {rest:List Oper} {o:Oper} {a:Act} {w:World} {K:Act→World→Prop} {Q:Exit→Act→World→Prop} {E:Prop}
theorem wp_append_r {t e:TypeId} {z:Value} {sz nb:Nat} (hE:ElemR t e z sz nb) (hgd:o.guard=none) (s y:Operand) (ho:o.op=.call { callee:=.builtin .append,args:=#[s,y],argTypes:=#[t,t] })
    (base n:Nat) (v:Value) (xs:List Value) (hs:a.eval s=v) (hown:w.ownsRow base e sz v n xs) (ad:Addr) (m c:Nat) (news:List Value) (hl:news.length=m * sz) (hy:a.eval y=.slice (some ad) m c)
    (hx:∀ j u,news[j]?=some u→w.cell? (ad.add j)=some u) (h1:∀ u ∈ news,u.oneCell'=true) (hb:n+m≤100000) (hbase:base≤w.heap.size)
    (h:∀ v' w',w'.ownsRow base e sz v' (n+m) (xs ++ news)→w.grownBy w' v.ownBlock→Below base w w'→wpList Tryz.prog ops Q rest (a.put o.dst v') w'):wpList Tryz.prog ops Q (o::rest) a w:=by
  obtain ⟨hu,hi,hz,hp,hnb⟩:=hE
  obtain ⟨i0,hi0,hz0,hz1,hz2⟩:=info_parts hi
  obtain ⟨v',w',hrun,h2,h3,_⟩:=run_append_own (P:=Tryz.prog) w base t o.type e i0 z sz nb hu hi0 hz0 hz1 hz2 hz hp v n xs hown ad m c news hl hx h1
      (by unfold maxLen; omega) (by have:(n+m) * nb≤100001 * 64:=Nat.mul_le_mul (by omega) hnb
                                    omega) hbase
  refine wpList_plain hgd fun K hK=>?_
  unfold Oper.wp
  simp [execOp,ho,resolve,invoke,builtin,hs,hy,hrun,Result.andThen]
  exact hK _ _ (h v' w' h2 h3 ((Below.refl base w).grown h3 hbase (fun k hk=>(hown.lt k hk).1)))
theorem wp_append_nothing {t e:TypeId} {z:Value} {sz nb:Nat} (hE:ElemR t e z sz nb) (hgd:o.guard=none) (s y:Operand) (ho:o.op=.call { callee:=.builtin .append,args:=#[s,y],argTypes:=#[t,t] })
    (base n:Nat) (v:Value) (xs:List Value) (hs:a.eval s=v) (hown:w.ownsRow base e sz v n xs) (hy:a.eval y=.slice none 0 0)
    (h:wpList Tryz.prog ops Q rest (a.put o.dst v) w):wpList Tryz.prog ops Q (o::rest) a w:=by
  obtain ⟨hu,hi,hz,hp,hnb⟩:=hE
  obtain ⟨i0,hi0,hz0,hz1,hz2⟩:=info_parts hi
  have hrun:=run_append_owned_none (P:=Tryz.prog) (w:=w) base t o.type e i0 sz hu hi0 v n xs hown
  refine wpList_plain hgd fun K hK=>?_
  unfold Oper.wp
  simp [execOp,ho,resolve,invoke,builtin,hs,hy,hrun,Result.andThen]
  exact hK _ _ h
end
theorem news_r (w:World) (L:List Value) (T:TypeId):∀ (j:Nat) (u:Value),L[j]?=some u→(w.alloc (.cells L.toArray T)).cell? ((⟨w.heap.size,0,none⟩:Addr).add j)=some u:=by
  intro j u hj
  rw [Go.WideShapes.add_plain,Nat.zero_add,World.cell?_alloc_new]
  simpa using hj
theorem owns_nil_r (w:World) (base:Nat) (e:TypeId) (sz:Nat):w.ownsRow base e sz (.slice none 0 0) 0 []:=⟨by simp,Or.inl ⟨rfl,rfl⟩⟩
theorem owns_mono_r {w:World} {base base' n sz:Nat} {e:TypeId} {v:Value} {xs:List Value} (h:w.ownsRow base' e sz v n xs) (hb:base≤base'):w.ownsRow base e sz v n xs:=by
  refine ⟨h.1,h.2.imp_right ?_⟩
  rintro ⟨g,cap,cur,h1,h2,h3⟩
  exact ⟨g,cap,cur,h1,Nat.le_trans hb h2,h3⟩
theorem owns_later_r {w w':World} {base n sz:Nat} {e:TypeId} {v:Value} {xs:List Value} (h:w.ownsRow base e sz v n xs) (hb:Below w.heap.size w w'):w'.ownsRow base e sz v n xs:=
  h.kept (row:=none) ⟨hb.os,hb.tape,hb.output,hb.size,fun k hk _=>hb.block k hk⟩ (by cases v.ownBlock <;> simp)
theorem owns_shape_r {w:World} {base n sz:Nat} {e:TypeId} {v:Value} {xs:List Value} (h:w.ownsRow base e sz v n xs):∃ ao cap,v=.slice ao n cap:=by
  rcases h.2 with ⟨h,h0⟩ | ⟨g,cap,cur,h,_⟩
  · exact ⟨none,0,by rw [h,h0]⟩
  · exact ⟨_,cap,h⟩
theorem elemIR:ElemR 31 3 (.int .i64 0) 1 8:=⟨Tryz.underlying31,by kernel_rfl,rfl,by decide,by decide⟩
theorem below_cells {B:Nat} {w0:World} (b:Nat) (hB:B≤b):∀ (vs:List Value) (o:Nat) (w:World),Below B w0 w→Below B w0 (w.setCells b o vs)
  | [],_,_,h=>h
  | v::r,o,w,h=>by
    rw [World.setCells]
    exact below_cells b hB r (o+1) _ (h.setCell (p:=⟨b,o,none⟩) hB v)
/-! ### Copying numbers -/
theorem OwnV.fillI {base g:Nat} {w0:World}:∀ (cs L:List Int) (off:Nat) (wr:World),OwnV base w0 g (ints L) wr→off+cs.length≤L.length→OwnV base w0 g (ints (lay L off cs)) (wr.setCells g off (ints cs))
  | [],_,_,_,h,_=>h
  | c::r,L,off,wr,h,hl=>by
    have hl':off+(r.length+1)≤L.length:=hl
    have h2:=h.store (k:=off) (y:=.int .i64 c) (by rw [ints_length];omega)
    rw [← ints_set] at h2
    exact OwnV.fillI r (L.set off c) (off+1) _ h2 (by rw [List.length_set];omega)
theorem sizeI:(Tryz.prog.info? 3).map (·.size)=some 1:=by kernel_rfl
theorem own_range {base g:Nat} {w0 w:World} {xs:List Value} (h:OwnV base w0 g xs w):w.rangeAt g 0 xs:=fun j v hj=>by rw [Nat.zero_add];exact h.1 j v hj
theorem own_part {base g:Nat} {w0 w:World} {L:List Int} (h:OwnV base w0 g (ints L) w) (o n:Nat):w.rangeAt g o (ints ((L.drop o).take n)):=fun j v hj=>by
  rw [ints_take,ints_drop,List.getElem?_take] at hj
  split at hj
  · rw [List.getElem?_drop] at hj
    exact h.1 _ v hj
  · cases hj
theorem OwnV.drew {base g:Nat} {w0 wr:World} {xs:List Value} (h:OwnV base w0 g xs wr):OwnV base w0 g xs wr.drew:=⟨fun j x hj=>h.1 j x hj,fun j=>h.2.1 j,h.2.2.1,h.2.2.2.drew⟩
def Keeps (g:Nat) (w w':World):Prop:=w'.heap.size=w.heap.size∧∀ k,k≠g→w'.heap[k]?=w.heap[k]?
theorem Keeps.refl (g:Nat) (w:World):Keeps g w w:=⟨rfl,fun _ _=>rfl⟩
theorem Keeps.trans {g:Nat} {a b c:World} (h:Keeps g a b) (k:Keeps g b c):Keeps g a c:=⟨k.1.trans h.1,fun i hi=>(k.2 i hi).trans (h.2 i hi)⟩
theorem Keeps.set (w:World) (p:Addr) (u:Value):Keeps p.block w (w.setCell p u):=⟨by simp,fun k hk=>Below.heap_setCell w p u k hk⟩
theorem Keeps.sets (g:Nat):∀ (vs:List Value) (o:Nat) (w:World),Keeps g w (w.setCells g o vs)
  | [],_,w=>Keeps.refl g w
  | v::r,o,w=>(Keeps.set w ⟨g,o,none⟩ v).trans (Keeps.sets g r (o+1) _)
theorem Keeps.cell {g:Nat} {w w':World} (h:Keeps g w w') {p:Addr} (hp:p.block≠g):w'.cell? p=w.cell? p:=World.cell?_of_block (w:=w) (h.2 p.block hp)
theorem Keeps.iarg {g:Nat} {w w':World} (h:Keeps g w w') {b off len cap:Nat} {zs:List Int} (hA:IArg w (some ⟨b,off,none⟩) len cap zs) (hb:b≠g):IArg w' (some ⟨b,off,none⟩) len cap zs:=by
  refine ⟨⟨hA.1.1,hA.1.2.1,?_⟩,hA.2⟩
  rcases hA.1.2.2 with h0 | ⟨b',o',he,hc⟩
  · exact Or.inl h0
  · simp only [Option.some.injEq,Addr.mk.injEq,and_true] at he
    obtain ⟨rfl,rfl⟩:=he
    exact Or.inr ⟨b,off,rfl,fun j x hj=>by rw [h.cell (p:=⟨b,off+j,none⟩) hb];exact hc j x hj⟩
theorem own_copy_ints {base g off len cap:Nat} {w0 w:World} {L:List Int} (hO:OwnV base w0 g (ints L) w) (hfit:off+len≤L.length) (ao:Option Addr) (m c:Nat) (zs:List Int) (hA:IArg w ao m c zs) (ty:TypeId) :
    ∃ v' w',(Builtin.copy_ #[31,31] ty #[.slice (some ⟨g,off,none⟩) len cap,.slice ao m c]).run Tryz.prog w=.ok v' w'∧v'=.int .i64 ((min m len:Nat):Int)∧OwnV base w0 g (ints (lay L off (zs.take len))) w'∧Keeps g w w':=by
  have hl:=hA.len
  cases ao with
  | none=>
    obtain ⟨rfl,rfl⟩:=hA.2.2.1 rfl
    obtain rfl:zs=[]:=List.length_eq_zero_iff.1 hl
    exact ⟨_,_,run_copy_none (P:=Tryz.prog) w 31 31 ty 3 _ none len cap 0 0 Tryz.underlying31 sizeI (by simp),by rw [Nat.zero_min];rfl,by rw [List.take_nil];exact hO,Keeps.refl _ _⟩
  | some ad=>
    have hn:=hA.news
    have hl2:(ints (zs.take len)).length=min m len:=by rw [ints_length,List.length_take,hl,Nat.min_comm]
    have hr:=run_copy_cells (P:=Tryz.prog) w 31 31 ty 3 g off len cap ad m c (ints (zs.take len)) Tryz.underlying31 sizeI (by rw [hl2])
      (fun j u hj=>by
        rw [ints_take,List.getElem?_take] at hj
        split at hj
        · exact hn j u hj
        · cases hj)
      (fun j hj=>by rw [hl2] at hj;rw [hO.1 (off+j) (.int .i64 (L.getD (off+j) 0)) (by rw [ints_get];rw [List.getD_eq_getElem?_getD,List.getElem?_eq_getElem (show off+j < L.length by omega)];rfl)];rfl) (fun j _=>hO.2.1 _) (ints_one _)
    rw [hl2] at hr
    exact ⟨_,_,hr,rfl,hO.fillI (zs.take len) L off w (by rw [List.length_take];omega),Keeps.sets _ _ _ _⟩
theorem lay_get:∀ (cs L:List Int) (off j:Nat),off+cs.length≤L.length→(lay L off cs).getD j 0=if off≤j∧j < off+cs.length then cs.getD (j - off) 0 else L.getD j 0
  | [],L,off,j,_=>by rw [if_neg (by simp only [List.length_nil];omega)];rfl
  | c::r,L,off,j,h=>by
    have h':off+(r.length+1)≤L.length:=h
    rw [lay,lay_get r _ _ _ (by rw [List.length_set];omega)]
    rw [List.length_cons]
    by_cases e:off=j
    · subst e
      rw [if_neg (by omega),if_pos (by omega),Nat.sub_self,List.getD_eq_getElem?_getD,List.getElem?_set_self (by omega)]
      rfl
    · by_cases h2:off+1≤j∧j < off+1+r.length
      · rw [if_pos h2,if_pos (by omega),show j - off=(j - (off+1))+1 by omega]
        rfl
      · rw [if_neg h2,if_neg (by omega),List.getD_eq_getElem?_getD,List.getElem?_set_ne e,← List.getD_eq_getElem?_getD]
end Go.Proofs.YtcefmpnijjcekaaGreatDoor
namespace Go.Proofs.YtcefmpnijjcekaaGreatDoor
open Go.RowKit
def bys (l:List Int):List Value:=l.map (Value.int .u8)
def flat (L:List (List Int)):List Value:=bys L.flatten
theorem bys_length (l:List Int):(bys l).length=l.length:=by unfold bys;simp
theorem bys_one (l:List Int):∀ u ∈ bys l,u.oneCell'=true:=one_cells l
theorem bys_append (a b:List Int):bys (a ++ b)=bys a ++ bys b:=by unfold bys;simp
theorem bys_get {l:List Int} {j:Nat} {v:Value} (h:(bys l)[j]?=some v):j < l.length∧v=.int .u8 (l.getD j 0):=by
  unfold bys at h
  rw [List.getElem?_map] at h
  cases hl:l[j]? with
  | none=>rw [hl] at h;cases h
  | some x=>
    rw [hl] at h
    refine ⟨(List.getElem?_eq_some_iff.1 hl).1,?_⟩
    rw [List.getD_eq_getElem?_getD,hl]
    exact (Option.some.inj h).symm
theorem bys_at {l:List Int} {j:Nat} (h:j < l.length):(bys l)[j]?=some (.int .u8 (l.getD j 0)):=by
  unfold bys
  rw [List.getElem?_map,List.getElem?_eq_getElem h]
  simp [List.getD,h]
def All64 (L:List (List Int)):Prop:=∀ c ∈ L,c.length=64∧∀ z ∈ c,0≤z∧z≤255
theorem flatten_len:∀ {L:List (List Int)},All64 L→L.flatten.length=L.length * 64
  | [],_=>rfl
  | c::r,h=>by
    rw [List.flatten_cons,List.length_append,flatten_len (fun x hx=>h x (List.mem_cons_of_mem _ hx)),(h c (by simp)).1,List.length_cons]
    omega
theorem flatten_at:∀ {L:List (List Int)} (_:All64 L) (i j:Nat),j < 64→L.flatten.getD (i * 64+j) 0=(L.getD i []).getD j 0
  | [],_,i,j,_=>by simp [List.getD]
  | c::r,h,0,j,hj=>by
    have hc:=(h c (by simp)).1
    rw [List.flatten_cons,List.getD_eq_getElem?_getD,List.getElem?_append_left (by omega)]
    rw [Nat.zero_mul,Nat.zero_add,← List.getD_eq_getElem?_getD]
    rfl
  | c::r,h,i+1,j,hj=>by
    have hc:=(h c (by simp)).1
    have ih:=flatten_at (L:=r) (fun x hx=>h x (List.mem_cons_of_mem _ hx)) i j hj
    rw [List.flatten_cons,List.getD_eq_getElem?_getD,List.getElem?_append_right (by omega),hc,show (i+1) * 64+j - 64=i * 64+j by omega,← List.getD_eq_getElem?_getD]
    exact ih
theorem flat_length {L:List (List Int)} (h:All64 L):(flat L).length=L.length * 64:=by
  unfold flat
  rw [bys_length,flatten_len h]
theorem flat_append (L M:List (List Int)):flat (L ++ M)=flat L ++ flat M:=by
  unfold flat
  rw [List.flatten_append,bys_append]
theorem flat_snoc (L:List (List Int)) (c:List Int):flat (L ++ [c])=flat L ++ bys c:=by
  rw [flat_append]
  unfold flat
  simp
theorem All64.set {L:List (List Int)} (h:All64 L) {i:Nat} {c:List Int} (hc:c.length=64∧∀ z ∈ c,0≤z∧z≤255):All64 (L.set i c):=fun x hx=>by
  rcases List.mem_or_eq_of_mem_set hx with hx | rfl
  · exact h x hx
  · exact hc
theorem All64.at {L:List (List Int)} (h:All64 L) {i:Nat} (hi:i < L.length):(L.getD i []).length=64∧∀ z ∈ L.getD i [],0≤z∧z≤255:=by
  have e:L.getD i []=L[i]:=by simp [List.getD,hi]
  rw [e]
  exact h _ (List.getElem_mem hi)
/-! ### Memory -/
def Grew (F F':Nat→Prop) (w w':World):Prop:=
  w'.os=w.os∧w'.tape=w.tape∧w'.output=w.output∧w.heap.size≤w'.heap.size∧(∀ k,k < w.heap.size→¬ F k→w'.heap[k]?=w.heap[k]?)∧∀ k,F' k→F k∨w.heap.size≤k
theorem Grew.below {F F':Nat→Prop} {B:Nat} {w0 w w':World} (h:Grew F F' w w') (hb:Below B w0 w) (hB:B≤w.heap.size) (hF:∀ k,F k→B≤k):Below B w0 w':=
  hb.trans ⟨h.1,h.2.1,h.2.2.1,h.2.2.2.1,fun k hk=>h.2.2.2.2.1 k (by omega) (fun hf=>by have:=hF k hf;omega)⟩
theorem Grew.refl (F:Nat→Prop) (w:World):Grew F F w w:=⟨rfl,rfl,rfl,Nat.le_refl _,fun _ _ _=>rfl,fun _ h=>Or.inl h⟩
theorem Grew.trans {F F' F'':Nat→Prop} {a b c:World} (h:Grew F F' a b) (k:Grew F' F'' b c):Grew F F'' a c:=by
  obtain ⟨h1,h2,h3,h4,h5,h6⟩:=h
  obtain ⟨k1,k2,k3,k4,k5,k6⟩:=k
  refine ⟨k1.trans h1,k2.trans h2,k3.trans h3,Nat.le_trans h4 k4,fun i hi hF=>?_,fun i hi=>?_⟩
  · rw [k5 i (by omega) (fun hf=>?_),h5 i hi hF]
    rcases h6 i hf with h | h
    · exact hF h
    · omega
  · rcases k6 i hi with h | h
    · exact h6 i h
    · exact Or.inr (by omega)
theorem Grew.of_below {F:Nat→Prop} {w w':World} (h:Below w.heap.size w w'):Grew F F w w':=⟨h.os,h.tape,h.output,h.size,fun k hk _=>h.block k hk,fun _ h=>Or.inl h⟩
theorem Grew.setCell (F:Nat→Prop) (w:World) {p:Addr} (hp:F p.block) (v:Value):Grew F F w (w.setCell p v):=
  ⟨rfl,rfl,rfl,by simp [World.setCell],fun k _ hF=>Below.heap_setCell _ _ _ _ (fun e=>hF (by rw [e];exact hp)),fun _ h=>Or.inl h⟩
theorem Grew.setCells (F:Nat→Prop) {b:Nat} (hb:F b):∀ (vs:List Value) (o:Nat) (w:World),Grew F F w (w.setCells b o vs)
  | [],_,w=>Grew.refl F w
  | v::r,o,w=>by
    rw [World.setCells]
    exact (Grew.setCell F w (p:=⟨b,o,none⟩) hb v).trans (Grew.setCells F hb r (o+1) _)
theorem Grew.drew (F:Nat→Prop) (w:World):Grew F F w w.drew:=⟨rfl,rfl,rfl,Nat.le_refl _,fun _ _ _=>rfl,fun _ h=>Or.inl h⟩
theorem Grew.block {F F':Nat→Prop} {w w':World} (h:Grew F F' w w') {k:Nat} (hk:k < w.heap.size) (hF:¬ F k):w'.heap[k]?=w.heap[k]?:=h.2.2.2.2.1 k hk hF
theorem Grew.size {F F':Nat→Prop} {w w':World} (h:Grew F F' w w'):w.heap.size≤w'.heap.size:=h.2.2.2.1
theorem cell_of_heap {w w':World} {p:Addr} (h:w'.heap[p.block]?=w.heap[p.block]?):w'.cell? p=w.cell? p:=World.cell?_of_block (w:=w) h
theorem frozen_of_heap {w w':World} {p:Addr} (h:w'.heap[p.block]?=w.heap[p.block]?):w'.frozen? p=w.frozen? p:=World.frozen?_of_block (w:=w) h
def Rw (w:World) (g:Nat) (L:List (List Int)):Prop:=
  All64 L∧(∀ j,j < L.flatten.length→w.cell? ⟨g,j,none⟩=some (.int .u8 (L.flatten.getD j 0)))∧∀ j,w.frozen? ⟨g,j,none⟩=false
theorem Rw.kept {w w':World} {g:Nat} {L:List (List Int)} (h:Rw w g L) (hk:w'.heap[g]?=w.heap[g]?):Rw w' g L:=
  ⟨h.1,fun j hj=>by rw [cell_of_heap (p:=⟨g,j,none⟩) hk];exact h.2.1 j hj,fun j=>by rw [frozen_of_heap (p:=⟨g,j,none⟩) hk];exact h.2.2 j⟩
theorem Rw.lt {w:World} {g:Nat} {L:List (List Int)} (h:Rw w g L) (h0:0 < L.length):g < w.heap.size:=
  World.block_lt_of_cell? _ _ (h.2.1 0 (by rw [flatten_len h.1];omega))
theorem Rw.later {w w':World} {g:Nat} {L:List (List Int)} (h:Rw w g L) (h0:0 < L.length) (hb:Below w.heap.size w w'):Rw w' g L:=h.kept (hb.block g (h.lt h0))
theorem Rw.range {w:World} {g:Nat} {L:List (List Int)} (h:Rw w g L) {i:Nat} (hi:i < L.length):w.rangeAt g (i * 64) (bys (L.getD i [])):=fun j v hv=>by
  obtain ⟨hj,rfl⟩:=bys_get hv
  rw [(h.1.at hi).1] at hj
  rw [h.2.1 (i * 64+j) (by rw [flatten_len h.1];omega),flatten_at h.1 i j hj]
theorem Rw.bts {w:World} {g:Nat} {L:List (List Int)} (h:Rw w g L) {i d m:Nat} (hi:i < L.length) (hm:d+m≤64):Bts w (some ⟨g,i * 64+d,none⟩) m (((L.getD i []).drop d).take m):=by
  have hc:=h.1.at hi
  refine ⟨by rw [List.length_take,List.length_drop,hc.1];omega,by omega,fun z hz=>hc.2 z (List.mem_of_mem_drop (List.mem_of_mem_take hz)),Or.inr ⟨g,i * 64+d,rfl,fun j hj=>?_⟩⟩
  rw [Nat.add_assoc,h.2.1 (i * 64+(d+j)) (by rw [flatten_len h.1];omega),flatten_at h.1 i (d+j) (by omega)]
  congr 2
  simp [List.getD,List.getElem?_take,hj,List.getElem?_drop]
theorem Rw.arg {w:World} {g:Nat} {L:List (List Int)} (h:Rw w g L) {i d m cap:Nat} (hi:i < L.length) (hm:d+m≤64) (hc:m≤cap):Arg w (some ⟨g,i * 64+d,none⟩) m cap (((L.getD i []).drop d).take m):=
  ⟨h.bts hi hm,by simp,hc,by omega⟩
theorem Rw.whole {w:World} {g:Nat} {L:List (List Int)} (h:Rw w g L) {i cap:Nat} (hi:i < L.length) (hc:64≤cap):Arg w (some ⟨g,i * 64,none⟩) 64 cap (L.getD i []):=by
  have:=h.arg (i:=i) (d:=0) (m:=64) (cap:=cap) hi (by omega) hc
  rw [Nat.add_zero,List.drop_zero,List.take_of_length_le (by rw [(h.1.at hi).1];omega)] at this
  exact this
theorem setCells_cell (g:Nat):∀ (vs:List Value) (o:Nat) (w:World) (j:Nat),(∀ k,o≤k→k < o+vs.length→(w.cell? ⟨g,k,none⟩).isSome)→(w.setCells g o vs).cell? ⟨g,j,none⟩=if o≤j∧j < o+vs.length then vs[j - o]? else w.cell? ⟨g,j,none⟩
  | [],o,w,j,_=>by rw [World.setCells,if_neg (by simp only [List.length_nil];omega)]
  | v::r,o,w,j,h=>by
    have hs:(w.cell? ⟨g,o,none⟩).isSome:=h o (Nat.le_refl _) (by simp)
    obtain ⟨u,hu⟩:=Option.isSome_iff_exists.1 hs
    rw [World.setCells,setCells_cell g r (o+1) _ j (fun k h1 h2=>by
      rw [World.cell?_setCell_other (h:=by intro e;simp at e <;> omega)]
      exact h k (by omega) (by simp only [List.length_cons];omega))]
    by_cases e:j=o
    · subst e
      rw [if_neg (by omega),if_pos (by simp only [List.length_cons];omega),World.cell?_setCell_same w _ _ hu]
      simp
    · by_cases h2:o+1≤j∧j < o+1+r.length
      · rw [if_pos h2,if_pos (by simp only [List.length_cons];omega),show j - o=(j - (o+1))+1 by omega]
        rfl
      · rw [if_neg h2,if_neg (by simp only [List.length_cons];omega),World.cell?_setCell_other (h:=by intro e';simp at e' <;> omega)]
theorem frozen_setCells (g:Nat):∀ (vs:List Value) (o:Nat) (w:World) (a:Addr),(w.setCells g o vs).frozen? a=w.frozen? a
  | [],_,_,_=>rfl
  | v::r,o,w,a=>by rw [World.setCells,frozen_setCells g r (o+1) _ a,World.frozen?_setCell]
theorem Rw.store {w:World} {g:Nat} {L:List (List Int)} (h:Rw w g L) {i:Nat} (hi:i < L.length) {c:List Int} (hc:c.length=64∧∀ z ∈ c,0≤z∧z≤255):Rw (w.setCells g (i * 64) (bys c)) g (L.set i c):=by
  have hA:=h.1.set (i:=i) hc
  refine ⟨hA,fun j hj=>?_,fun j=>by rw [frozen_setCells];exact h.2.2 j⟩
  rw [flatten_len hA,List.length_set] at hj
  rw [setCells_cell g (bys c) (i * 64) w j (fun k h1 h2=>by rw [h.2.1 k (by rw [flatten_len h.1];rw [bys_length,hc.1] at h2;omega)];rfl),bys_length,hc.1]
  obtain ⟨q,r,hr,rfl⟩:∃ q r,r < 64∧j=q * 64+r:=⟨j / 64,j%64,by omega,by omega⟩
  rw [flatten_at hA q r hr]
  by_cases e:q=i
  · subst e
    rw [if_pos (by omega),show q * 64+r - q * 64=r by omega,bys_at (by omega)]
    congr 2
    have:(L.set q c).getD q []=c:=by simp [List.getD,hi]
    rw [this]
  · rw [if_neg (by omega),h.2.1 (q * 64+r) (by rw [flatten_len h.1];omega),flatten_at h.1 q r hr]
    congr 2
    have:(L.set i c).getD q []=L.getD q []:=by simp [List.getD,List.getElem?_set,Ne.symm e]
    rw [this]
theorem Rw.there {w:World} {g:Nat} {L:List (List Int)} (h:Rw w g L) {i:Nat} (hi:i < L.length):w.there g (i * 64) 64:=fun j hj=>
  ⟨by rw [h.2.1 (i * 64+j) (by rw [flatten_len h.1];omega)];rfl,h.2.2 _⟩
theorem Rw.drew {w:World} {g:Nat} {L:List (List Int)} (h:Rw w g L):Rw w.drew g L:=h.kept rfl
theorem rw_of_owns {w:World} {base n:Nat} {v:Value} {L:List (List Int)} (h:w.ownsRow base 84 64 v n (flat L)) (hL:All64 L) (hn:0 < n) :
    ∃ g cap,v=.slice (some ⟨g,0,none⟩) n cap∧n≤cap∧L.length=n∧base≤g∧g < w.heap.size∧Rw w g L:=by
  obtain ⟨h1,h2⟩:=h
  have hl:L.length=n:=by rw [flat_length hL] at h1;omega
  rcases h2 with ⟨_,h0⟩ | ⟨g,cap,cur,hv,hb,hg,hc,hm,hs,ht⟩
  · omega
  · have hlt:g < w.heap.size:=by
      rcases Nat.lt_or_ge g w.heap.size with hlt | hge
      · exact hlt
      · rw [Array.getElem?_eq_none hge] at hg;cases hg
    refine ⟨g,cap,hv,hc,hl,hb,hlt,hL,fun j hj=>?_,fun j=>?_⟩
    · have h3:=(show w.ownsRow base 84 64 v n (flat L) from ⟨h1,Or.inr ⟨g,cap,cur,hv,hb,hg,hc,hm,hs,ht⟩⟩).cells (by rw [hv];rfl) j (.int .u8 (L.flatten.getD j 0)) (bys_at hj)
      rw [Go.WideShapes.add_plain] at h3
      simpa using h3
    · simp [World.frozen?,hg]
end Go.Proofs.YtcefmpnijjcekaaGreatDoor
