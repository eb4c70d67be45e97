/- Proved here: what the smallest calls of the landed image answer: must where there is no error, within; put. The conditions stand at each theorem. Proved here: plain facts on a number's bytes, the least one first, in a list of bytes: what is put, what is read, when it fits. No conditions but those that each theorem names. Nothing of the program is read here. Proved here: .. -/
import Derived.Test.YtcefmpnijjcekaaGreatDoorTk0
import Derived.Lib.Hide
import Derived.IntWalk
import Derived.Laws.ComplexArith
import Derived.WalkKit
import Derived.WalkSpells
import Derived.WalkLawsBesides
import Derived.Outline
import Derived.Deep.RegionWith
import Derived.Deep.QuietTactic
import Derived.BigQuiet
set_option linter.unusedVariables false
set_option linter.unusedSimpArgs false
namespace Go.Proofs.YtcefmpnijjcekaaGreatDoor
open Go.RowKit
theorem drew_eq17 (w:World):{ w with drawn:=w.drawn+1 }=w.drew:=rfl
theorem mustB_any (v:Value) (w:World):Calls Tryz.prog 57 #[v,.int .i64 0] w fun e w'=>e=.returned v∧w=w':=by
  go_enter Tryz.func57,Tryz.ntmps57
  go_wp2_with fail
  go_ret
  exact ⟨rfl,rfl⟩
theorem mustC_any (v:Value) (w:World):Calls Tryz.prog 61 #[v,.int .i64 0] w fun e w'=>e=.returned v∧w=w':=by
  go_enter Tryz.func61,Tryz.ntmps61
  go_wp2_with fail
  go_ret
  exact ⟨rfl,rfl⟩
theorem mustI_any (v:Value) (w:World):Calls Tryz.prog 79 #[v,.int .i64 0] w fun e w'=>e=.returned v∧w=w':=by
  go_enter Tryz.func79,Tryz.ntmps79
  go_wp2_with fail
  go_ret
  exact ⟨rfl,rfl⟩
theorem mustCs_any (v:Value) (w:World):Calls Tryz.prog 75 #[v,.int .i64 0] w fun e w'=>e=.returned v∧w=w':=by
  go_enter Tryz.func75,Tryz.ntmps75
  go_wp2_with fail
  go_ret
  exact ⟨rfl,rfl⟩
def inI (n lo hi:Int):Bool:=decide (lo≤n∧n≤hi)
theorem iwithin_any (n lo hi:Int) (w:World):Calls Tryz.prog 43 #[.int .i64 n,.int .i64 lo,.int .i64 hi] w fun e w'=>e=.returned (.bool (inI n lo hi))∧w=w':=by
  by_cases h1:lo≤n
  · by_cases h2:n≤hi
    · have HE:Hid (inI n lo hi=true):=Lib.hid (decide_eq_true ⟨h1,h2⟩)
      go_enter Tryz.func43,Tryz.ntmps43
      go_wp2
      go_ret
      exact ⟨by rw [HE.out];rfl,rfl⟩
    · have HE:Hid (inI n lo hi=false):=Lib.hid (decide_eq_false (fun h=>h2 h.2))
      go_enter Tryz.func43,Tryz.ntmps43
      go_wp2
      go_ret
      exact ⟨by rw [HE.out];rfl,rfl⟩
  · have HE:Hid (inI n lo hi=false):=Lib.hid (decide_eq_false (fun h=>h1 h.1))
    go_enter Tryz.func43,Tryz.ntmps43
    go_wp2
    go_ret
    exact ⟨by rw [HE.out];rfl,rfl⟩
theorem ublk:Tryz.prog.underlying 84=some (.array 64 5):=Tryz.underlying84
theorem iblk {c:List Int} (h:c.length=64):(Tryz.prog.info? 84).map (·.size)=some (bys c).length:=by rw [bys_length,h];kernel_rfl
theorem iblka {c:List Int} (h:c.length=64):(Tryz.prog.info? 84).map (·.size)=some (bys c).toArray.size:=by rw [List.size_toArray];exact iblk h
theorem still_blk {ops:Array Oper} {rest:List Oper} {o:Oper} {a:Act} {w:World} {Q:Act→Prop} (hg:o.guard=none) (x:Operand) (ho:o.op=.load 84 x) (dst:Option Tmp) (hd:o.dst=dst) (b off:Nat) (hx:a.eval x=.pointer (some ⟨b,off,none⟩))
    (c:List Int) (hr:w.rangeAt b off (bys c)) (hc:c.length=64) (h:wpStill Tryz.prog ops w Q rest (a.put dst (.agg (bys c).toArray))):wpStill Tryz.prog ops w Q (o::rest) a:=by
  subst hd
  refine wpStill_step (fun K hK=>?_)
  rw [if_pos (by simp [Region.wanted,hg])]
  unfold Oper.still execOp
  simp only [ho,hx,Instr.loadAt,Instr.sureAddr,Sem.run_bind,Sem.run_pure,Result.andThen_ok,run_loadVar_mid w b off _ (bys c) _ hr ublk rfl (iblk hc),Oper.stillUpon_value]
  exact hK _ h
theorem arg_range {w:World} {b off cap m:Nat} {zs:List Int} (h:Arg w (some ⟨b,off,none⟩) m cap zs):w.rangeAt b off (bys zs):=fun j v hv=>by
  obtain ⟨hj,rfl⟩:=bys_get hv
  rcases h.1.2.2.2 with h0 | ⟨b',o',e,hc⟩
  · have:=h.1.1;omega
  · cases e
    exact hc j (by have:=h.1.1;omega)
theorem to_array (b off c:Nat) (w:World):(Instr.arrayAt 84 (.slice (some ⟨b,off,none⟩) 64 c)).run Tryz.prog w=.ok (.pointer (some ⟨b,off,none⟩)) w:=by
  simp only [Instr.arrayAt,run_underlying ublk,Sem.run_bind,Result.andThen_ok]
  rfl
set_option maxRecDepth 100000 in
set_option maxHeartbeats 1600000 in
theorem put_any {w:World} {p q g n cap i c2:Nat} {L:List (List Int)} {ao:Option Addr} {zs:List Int} (hp:w.cell? ⟨p,q,none⟩=some (.slice (some ⟨g,0,none⟩) n cap)) (hR:Rw w g L) (hn:L.length=n) (hi:i < n) (hA:Arg w ao 64 c2 zs) :
    Calls Tryz.prog 56 #[.pointer (some ⟨p,q,none⟩),.int .i64 i,.slice ao 64 c2] w fun e w'=>e=.returned (.tuple #[])∧Rw w' g (L.set i zs)∧Grew (fun k=>k=g) (fun k=>k=g) w w':=by
  obtain ⟨b,off,rfl⟩:∃ b off,ao=some ⟨b,off,none⟩:=by
    rcases hA.1.2.2.2 with h0 | ⟨b,off,e,_⟩
    · omega
    · exact ⟨b,off,e⟩
  have HR:=Lib.hid hR
  have HN:=Lib.hid hn
  have HZ:=Lib.hid (And.intro hA.1.1 hA.1.2.2.1)
  have HA:=Lib.hid (arg_range hA)
  have hcv:=to_array b off c2
  clear hA hR hn
  go_enter Tryz.func56,Tryz.ntmps56
  go_wp2_with fail
  refine wp_region_still_tail 9 (by kernel_rfl) (by kernel_rfl) ?_
  simp only [List.take_succ_cons,List.take_zero,List.drop_succ_cons,List.drop_zero]
  try rw [drew_eq17]
  iterate 7 still_step
  refine still_blk rfl (.tmp 12) rfl (some 13) rfl b off rfl zs ((World.rangeAt_drew _ _ _ _).2 HA.out) HZ.out.1 ?_
  still_step
  refine wpStill_nil ?_
  refine wpList_store_mid rfl 84 (.tmp 14) (.tmp 13) rfl g (i * 64) (bys zs).toArray rfl rfl ?_ (iblka HZ.out.1) (all_oneCell_toArray (bys_one zs)) ?_
  · rw [List.size_toArray,bys_length,HZ.out.1]
    exact (World.there_drew _ _ _ _).2 (HR.out.there (by rw [HN.out];exact hi))
  go_wp2_with fail
  go_end0
  exact ⟨rfl,HR.out.drew.store (by rw [HN.out];exact hi) HZ.out,(Grew.drew _ _).trans (Grew.setCells (fun k=>k=g) rfl _ _ _)⟩
end Go.Proofs.YtcefmpnijjcekaaGreatDoor
namespace Go.Proofs.YtcefmpnijjcekaaGreatDoor
def fErr (len:Nat) (p size:Int):Int:=
  if len=64 then (if size < 1∨4 < size∨p < 0∨60 < p∨60 < p+size then 1 else 0) else 2
def putK (zs:List Int) (p:Nat) (n:Int):Nat→List Int × Int
  | 0=>(zs,n)
  | k+1=>((putK zs p n k).1.set (p+k) ((putK zs p n k).2%256),(putK zs p n k).2 / 256)
def leN (zs:List Int) (p:Nat):Nat→Int
  | 0=>0
  | k+1=>leN zs p k+zs.getD (p+k) 0 * 256^k
def setErr (len:Nat) (p size n:Int):Int:=
  if fErr len p size≠0 then fErr len p size else if n < 0∨0 < (putK [] 0 n size.toNat).2 then 7 else 0
def setOut (zs:List Int) (p size n:Int):List Int:=
  if setErr zs.length p size n=0 then (putK zs p.toNat n size.toNat).1 else []
theorem putK_rest (zs ys:List Int) (p q:Nat) (n:Int) (k:Nat):(putK zs p n k).2=(putK ys q n k).2:=by
  induction k with
  | zero=>rfl
  | succ k ih=>show _ / 256=_ / 256;rw [ih]
theorem putK_length (zs:List Int) (p:Nat) (n:Int) (k:Nat):(putK zs p n k).1.length=zs.length:=by
  induction k with
  | zero=>rfl
  | succ k ih=>show ((putK zs p n k).1.set _ _).length=_;rw [List.length_set,ih]
theorem putK_nonneg (zs:List Int) (p:Nat) {n:Int} (h:0≤n) (k:Nat):0≤(putK zs p n k).2∧(putK zs p n k).2≤n:=by
  induction k with
  | zero=>exact ⟨h,Int.le_refl _⟩
  | succ k ih=>
    show 0≤(putK zs p n k).2 / 256∧(putK zs p n k).2 / 256≤n
    omega
theorem pow256_pos (k:Nat):(1:Int)≤256^k:=by
  have:=Int.pow_pos (n:=256) (m:=k) (by decide)
  omega
theorem leN_bounds {zs:List Int} (hz:∀ z ∈ zs,0≤z∧z≤255) (p k:Nat) (h:p+k≤zs.length):0≤leN zs p k∧leN zs p k < 256^k:=by
  induction k with
  | zero=>exact ⟨Int.le_refl _,by show (0:Int) < 1;decide⟩
  | succ k ih=>
    have h1:=ih (by omega)
    have h2:=hz _ (getD_mem (l:=zs) (k:=p+k) (by omega))
    have h3:=pow256_pos k
    have h4:zs.getD (p+k) 0 * 256^k≤255 * 256^k:=Int.mul_le_mul_of_nonneg_right h2.2 (by omega)
    have h5:0≤zs.getD (p+k) 0 * 256^k:=Int.mul_nonneg h2.1 (by omega)
    rw [Int.pow_succ]
    show 0≤leN zs p k+zs.getD (p+k) 0 * 256^k∧leN zs p k+zs.getD (p+k) 0 * 256^k < 256^k * 256
    omega
theorem pow256_four {k:Nat} (h:k≤4):(256:Int)^k≤4294967296:=by
  rcases k with _ | _ | _ | _ | _ | k
  · decide
  · decide
  · decide
  · decide
  · decide
  · omega
theorem leN_four {zs:List Int} (hz:∀ z ∈ zs,0≤z∧z≤255) (p k:Nat) (h:p+k≤zs.length) (hk:k≤4):0≤leN zs p k∧leN zs p k < 4294967296:=by
  have h1:=leN_bounds hz p k h
  have h2:=pow256_four hk
  omega
theorem le_step {zs:List Int} {p k:Nat} {n t:Int} (h:n * 256^(k+1)+leN zs p (k+1)=t):(n * 256+zs.getD (p+k) 0) * 256^k+leN zs p k=t:=by
  rw [← h,Int.pow_succ]
  show _=n * (256^k * 256)+(leN zs p k+zs.getD (p+k) 0 * 256^k)
  grind
theorem le_part {zs:List Int} (hz:∀ z ∈ zs,0≤z∧z≤255) {p k:Nat} {n t:Int} (hn:0≤n) (hk:p+k≤zs.length) (h:n * 256^k+leN zs p k=t):n≤t:=by
  have h1:=(leN_bounds hz p k hk).1
  have h2:=pow256_pos k
  have h3:n * 1≤n * 256^k:=Int.mul_le_mul_of_nonneg_left h2 hn
  omega
def getOut (zs:List Int) (p size:Int):Int:=if fErr zs.length p size=0 then leN zs p.toNat size.toNat else 0
theorem fErr_ok {len:Nat} {p size:Int} (h:fErr len p size=0):len=64∧1≤size∧size≤4∧0≤p∧p+size≤60:=by
  unfold fErr at h
  split at h
  · split at h
    · omega
    · omega
  · omega
theorem setOut_err {zs:List Int} {p size n:Int} (h:setErr zs.length p size n≠0):setOut zs p size n=[]:=by
  unfold setOut;rw [if_neg h]
theorem setOut_ok {zs:List Int} {p size n:Int} (h:setErr zs.length p size n=0):setOut zs p size n=(putK zs p.toNat n size.toNat).1:=by
  unfold setOut;rw [if_pos h]
def leB (n:Int):Nat→List Int
  | 0=>[]
  | k+1=>leB n k ++ [n / 256^k%256]
theorem leB_length (n:Int) (k:Nat):(leB n k).length=k:=by
  induction k with
  | zero=>rfl
  | succ k ih=>show (leB n k ++ _).length=_;rw [List.length_append,ih];rfl
theorem leB_bytes (n:Int) (k:Nat):∀ z ∈ leB n k,0≤z∧z≤255:=by
  induction k with
  | zero=>simp [leB]
  | succ k ih=>
    intro z hz
    rcases List.mem_append.1 hz with h | h
    · exact ih z h
    · rw [List.mem_singleton.1 h];omega
theorem pow_two_bytes (k:Nat):(2:Int)^(8 * k)=256^k:=by
  rw [Int.pow_mul];rfl
def sealOf (sum:List Int→Int) (zs:List Int):List Int:=
  let l:=(zs ++ List.replicate (60 - zs.length) 0).take 60
  l ++ leB (sum l) 4
def textErr (len:Nat) (p:Int) (n:Nat):Int:=if len=64 then (if p < 0∨60 < p∨60 - p < n then 1 else 0) else 2
def textOut (zs:List Int) (p:Int) (ss:List Int):List Int:=
  if textErr zs.length p ss.length=0 then zs.take p.toNat ++ ss ++ zs.drop (p.toNat+ss.length) else []
def sealErr (len:Nat):Int:=if len=64 then 0 else 2
def sealOut (sum:List Int→Int) (zs:List Int):List Int:=if zs.length=64 then sealOf sum zs else []
theorem sealOf_take {sum:List Int→Int} {zs:List Int} (h:zs.length=64):sealOf sum zs=zs.take 60 ++ leB (sum (zs.take 60)) 4:=by
  have e:(zs ++ List.replicate (60 - zs.length) 0).take 60=zs.take 60:=by
    rw [h];simp
  unfold sealOf
  rw [e]
end Go.Proofs.YtcefmpnijjcekaaGreatDoor
namespace Go.Proofs.YtcefmpnijjcekaaGreatDoor
open Go.RowKit
theorem big64:9223372036854775808 < 2^64:=by decide
theorem below64 {a b:Nat} (h:a+b < 9223372036854775808):a < 2^64:=by
  have:=big64
  generalize 2^64=B at *
  omega
theorem or_parts {a x:Int} {m:Nat} (ha:0≤a∧a < 2^m) (hx:0≤x) (hs:a+x * 2^m < 9223372036854775808):bits .or .i64 a (x * 2^m)=a+x * 2^m:=by
  obtain ⟨a,rfl⟩:=Int.eq_ofNat_of_zero_le ha.1
  obtain ⟨x,rfl⟩:=Int.eq_ofNat_of_zero_le hx
  have hp:((2:Int)^m)=((2^m:Nat):Int):=by rw [Int.natCast_pow];rfl
  have ha2:a < 2^m:=by have h:=ha.2;rw [hp] at h;exact Int.ofNat_lt.1 h
  have he:((x:Int) * 2^m)=((2^m * x:Nat):Int):=by rw [hp,Nat.mul_comm];exact (Int.natCast_mul _ _).symm
  rw [he] at hs ⊢
  have h3:2^m * x+a < 9223372036854775808:=by omega
  have h1:(BitVec.ofInt 64 (a:Int)).toNat=a:=by
    rw [BitVec.ofInt_natCast,BitVec.toNat_ofNat];exact Nat.mod_eq_of_lt (below64 (b:=2^m * x) (by rw [Nat.add_comm];exact h3))
  have h2:(BitVec.ofInt 64 ((2^m * x:Nat):Int)).toNat=2^m * x:=by
    rw [BitVec.ofInt_natCast,BitVec.toNat_ofNat];exact Nat.mod_eq_of_lt (below64 h3)
  show IntKind.i64.wrap ((BitVec.ofInt 64 (a:Int) ||| BitVec.ofInt 64 ((2^m * x:Nat):Int)).toNat:Int)=_
  rw [BitVec.toNat_or,h1,h2,Nat.or_comm,← Nat.two_pow_add_eq_or_of_lt ha2,IntWalk.i64_in _ (by omega)]
  omega
/-! Bits of bytes -/
theorem byte_bits:∀ (x:Fin 256) (k:Fin 8),
    (bits .and .u8 ((x.val:Int) / 2^k.val) 1=(x.val:Int) / 2^k.val%2)∧
    (0≤bits .or .u8 (x.val:Int) (2^k.val)∧bits .or .u8 (x.val:Int) (2^k.val)≤255)∧
    (0≤bits .andNot .u8 (x.val:Int) (2^k.val)∧bits .andNot .u8 (x.val:Int) (2^k.val)≤255)∧
    (∀ i:Fin 8,(bits .or .u8 (x.val:Int) (2^k.val) / 2^i.val%2=if i=k then 1 else (x.val:Int) / 2^i.val%2)∧
      (bits .andNot .u8 (x.val:Int) (2^k.val) / 2^i.val%2=if i=k then 0 else (x.val:Int) / 2^i.val%2)):=by
  decide +kernel
theorem byte_fin {x:Int} (h:0≤x∧x≤255):∃ y:Fin 256,x=(y.val:Int):=⟨⟨x.toNat,by omega⟩,by show x=(x.toNat:Int);omega⟩
theorem and_one {x:Int} {k:Nat} (h:0≤x∧x≤255) (hk:k < 8):bits .and .u8 (x / 2^k) 1=x / 2^k%2:=by
  obtain ⟨y,rfl⟩:=byte_fin h
  exact (byte_bits y ⟨k,hk⟩).1
theorem or_bit {x:Int} {k:Nat} (h:0≤x∧x≤255) (hk:k < 8):(0≤bits .or .u8 x (2^k)∧bits .or .u8 x (2^k)≤255)∧∀ i,i < 8→bits .or .u8 x (2^k) / 2^i%2=if i=k then 1 else x / 2^i%2:=by
  obtain ⟨y,rfl⟩:=byte_fin h
  have hb:=byte_bits y ⟨k,hk⟩
  refine ⟨hb.2.1,fun i hi=>?_⟩
  have e:=(hb.2.2.2 ⟨i,hi⟩).1
  by_cases h:i=k
  · rw [if_pos (Fin.ext h)] at e
    rw [if_pos h]
    exact e
  · rw [if_neg (fun e=>h (Fin.val_eq_of_eq e))] at e
    rw [if_neg h]
    exact e
theorem andNot_bit {x:Int} {k:Nat} (h:0≤x∧x≤255) (hk:k < 8):(0≤bits .andNot .u8 x (2^k)∧bits .andNot .u8 x (2^k)≤255)∧∀ i,i < 8→bits .andNot .u8 x (2^k) / 2^i%2=if i=k then 0 else x / 2^i%2:=by
  obtain ⟨y,rfl⟩:=byte_fin h
  have hb:=byte_bits y ⟨k,hk⟩
  refine ⟨hb.2.2.1,fun i hi=>?_⟩
  have e:=(hb.2.2.2 ⟨i,hi⟩).2
  by_cases h:i=k
  · rw [if_pos (Fin.ext h)] at e
    rw [if_pos h]
    exact e
  · rw [if_neg (fun e=>h (Fin.val_eq_of_eq e))] at e
    rw [if_neg h]
    exact e
end Go.Proofs.YtcefmpnijjcekaaGreatDoor
namespace Go.Proofs.YtcefmpnijjcekaaGreatDoor
open Go.RowKit
def begun (n:Int) (k j:Nat):List Int:=leB n j ++ List.replicate (k - j) 0
theorem begun_length (n:Int) (k j:Nat) (h:j≤k):(begun n k j).length=k:=by
  unfold begun;rw [List.length_append,leB_length,List.length_replicate];omega
theorem begun_step (n:Int) (k j:Nat) (h:j < k):(begun n k j).set j (n / 256^j%256)=begun n k (j+1):=by
  have e:k - j=(k - (j+1))+1:=by omega
  unfold begun
  rw [e,List.replicate_succ,List.set_append_right _ _ (by rw [leB_length];exact Nat.le_refl _),leB_length,Nat.sub_self,List.set_cons_zero]
  show _=(leB n j ++ [n / 256^j%256]) ++ _
  rw [List.append_assoc]
  rfl
set_option maxHeartbeats 400000 in
theorem fBytes_any (k:Nat) (n:Int) (w:World) (hk:k≤4) :
    Calls Tryz.prog 142 #[.int .i64 k,.int .i64 n] w fun e w'=>e=.returned (.string (str (leB n k)))∧Below w.heap.size w w':=by
  have hmk:=run_make_bytes w k (by omega)
  have HO:=Lib.hid (made_own w k)
  generalize hw1:w.alloc (.cells (madeCells #[.int .u8 0] k) 5)=w1 at *
  have HW1:=Lib.hid hw1
  clear hw1
  go_enter Tryz.func142,Tryz.ntmps142
  go_wp2
  go_loopw [11] (fun iv wr=>∃ j:Nat,j≤k∧iv=.int .i64 j∧Hid (Own w.heap.size w w.heap.size (begun n k j) wr)) (fun iv _=>k - (intOf iv).toNat)
  case atStart=>exact ⟨0,Nat.zero_le _,rfl,HO⟩
  case round=>
    obtain ⟨j,hj,rfl,HR⟩:=hrel
    by_cases hlt:j < k
    · have hcell:=HR.out.2.1 j (by rw [begun_length _ _ _ hj];exact hlt)
      have hfr:=HR.out.2.2.1 j
      obtain ⟨x,hx⟩:∃ x,(begun n k j).getD j 0=x:=⟨_,rfl⟩
      rw [hx] at hcell
      clear hx
      have HS:=Lib.hid (HR.out.store (k:=j) (y:=n / 256^j%256) (by rw [begun_length _ _ _ hj];exact hlt) (by omega))
      rw [begun_step n k j hlt,← pow_two_bytes] at HS
      go_wp2
      go_roundw
      case rel=>exact ⟨j+1,by omega,by go_num,HS⟩
      case measure=>simp [intOf];omega
    · have hjk:j=k:=by omega
      subst hjk
      have e0:begun n j j=leB n j:=by unfold begun;rw [Nat.sub_self];simp
      have hO:=HR.out
      rw [e0] at hO
      have hb:=hO.bts (by rw [leB_length];omega)
      rw [leB_length] at hb
      have hs:=str_bytes (cap:=j) hb
      have HB:=Lib.hid hO.2.2.2.2
      clear hO hb e0
      go_wp2
      go_ret
      exact ⟨rfl,HB.out⟩
end Go.Proofs.YtcefmpnijjcekaaGreatDoor
namespace Go.Proofs.YtcefmpnijjcekaaGreatDoor
open Go.RowKit
set_option maxHeartbeats 400000 in
set_option maxRecDepth 100000 in
theorem fWith_any (ao:Option Addr) (cap:Nat) (zs:List Int) (q:Nat) (s:ByteArray) (w:World) (hB:Bts w ao 64 zs) (hq:q+s.size≤64) (hq64:q < 64) :
    Calls Tryz.prog 132 #[.slice ao 64 cap,.int .i64 q,.string s] w (Gives w.heap.size w (lay zs q (bytesOf s))):=by
  have hmk:=run_make_bytes w 64 (by decide)
  rw [show ((64:Nat):Int)=64 from rfl] at hmk
  have HO:=Lib.hid (made_own w 64)
  have HL:=Lib.hid hB.1
  have HB:=Lib.hid (hB.later HO.out.2.2.2.2)
  clear hB
  have HZ:Hid (lay (List.replicate 64 0) 0 zs=zs):=Lib.hid (by
    rw [lay_eq _ _ _ (by rw [HL.out];decide),HL.out]
    simp)
  generalize hw1:w.alloc (.cells (madeCells #[.int .u8 0] 64) 5)=w1 at *
  have HW1:=Lib.hid hw1
  clear hw1
  have i1:(q:Int)≤64:=by omega
  go_enter Tryz.func132,Tryz.ntmps132
  go_wp2_with (first | (refine wp_copy rfl (.tmp 9) (.tmp 10) 44 44 rfl _ _ rfl rfl _ (own_copy_bytes HO.out (by decide) ao 64 cap zs HB.out (by decide) _) ?_;rintro v2 w2 ⟨rfl,hO2⟩;rw [HZ.out] at hO2;have HO2:=Lib.hid hO2;clear hO2) | (refine wp_copy rfl (.tmp 14) (.tmp 15) 44 9 rfl _ _ rfl rfl _ (own_copy_text HO2.out (by rw [HL.out];omega) s (by omega) _) ?_;rintro v3 w3 ⟨rfl,hO3⟩;have HO3:=Lib.hid hO3;clear hO3))
  go_ret
  have hf:=HO3.out.fresh (cap:=64) (by rw [lay_length,HL.out];decide) (by rw [lay_length,HL.out];decide)
  rw [lay_length,HL.out] at hf
  exact ⟨_,rfl,hf,HO3.out.2.2.2.2⟩
end Go.Proofs.YtcefmpnijjcekaaGreatDoor
namespace Go.Proofs.YtcefmpnijjcekaaGreatDoor
open Ieee
theorem signed_add (s:Bool) (m a b:Nat):signed s m (a+b)=signed s m a * 2^b:=by
  unfold signed
  simp only [Nat.shiftLeft_eq,Nat.pow_add]
  split <;> simp [Int.mul_assoc,Int.neg_mul]
theorem signed_zero (s:Bool) (a:Nat):signed s 0 a=0:=by
  unfold signed
  simp
theorem two_pow_ne (k:Nat):(2:Int)^k≠0:=by
  have h:=Int.pow_pos (n:=2) (m:=k) (by decide)
  omega
def DIf (d:Datum) (n:Int):Prop:=
  ∃ s m e,∃ K:Nat,d=.number s m e∧0≤e+(K:Int)∧signed s m (e+K).toNat=n * 2^K
theorem DIf.at' {s:Bool} {m:Nat} {e n:Int} (h:DIf (.number s m e) n) (K:Nat) (hK:0≤e+(K:Int)) :
    signed s m (e+K).toNat=n * 2^K:=by
  obtain ⟨s',m',e',K',hd,h0,h1⟩:=h
  cases hd
  have e1:(e+K).toNat+K'=(e+K').toNat+K:=by omega
  have e2:=signed_add s m (e+K).toNat K'
  rw [e1,signed_add,h1] at e2
  have e3:n * 2^K * 2^K'=signed s m (e+K).toNat * 2^K':=by rw [← e2,Int.mul_assoc,Int.mul_assoc,Int.mul_comm (2^K)]
  exact (Int.mul_eq_mul_right_iff (two_pow_ne K')).1 e3.symm
theorem DIf.num {d:Datum} {n:Int} (h:DIf d n):∃ s m e,d=.number s m e:=by
  obtain ⟨s,m,e,K,h,_,_⟩:=h
  exact ⟨s,m,e,h⟩
theorem signed_natAbs (t:Int) (sg:Bool) (h:t≠0→sg=decide (t < 0)) (k:Nat):signed sg t.natAbs k=t * 2^k:=by
  have e:=signed_add sg t.natAbs 0 k
  rw [Nat.zero_add] at e
  rw [e]
  have e2:signed sg t.natAbs 0=t:=by
    by_cases h0:t=0
    · subst h0;exact signed_zero _ _
    · rw [h h0]
      unfold signed
      by_cases hn:t < 0
      · simp [hn];omega
      · simp [hn];omega
  rw [e2]
theorem di_sum {x y:Datum} {a b:Int} (hx:DIf x a) (hy:DIf y b):∃ d,x.sum y=some d∧DIf d (a+b):=by
  obtain ⟨s,m,i,rfl⟩:=hx.num
  obtain ⟨t,n,j,rfl⟩:=hy.num
  refine ⟨_,rfl,?_⟩
  generalize hbase:min i j=base
  have hi:base≤i:=by omega
  have hj:base≤j:=by omega
  generalize htot:signed s m (i - base).toNat+signed t n (j - base).toNat=tot
  refine ⟨_,_,_,(-base).toNat,rfl,by omega,?_⟩
  rw [signed_natAbs _ _ (by intro h;rw [if_neg h])]
  rw [← htot,Int.add_mul,← signed_add,← signed_add]
  have e1:(i - base).toNat+(base+((-base).toNat:Int)).toNat=(i+((-base).toNat:Int)).toNat:=by omega
  have e2:(j - base).toNat+(base+((-base).toNat:Int)).toNat=(j+((-base).toNat:Int)).toNat:=by omega
  rw [e1,e2,hx.at' _ (by omega),hy.at' _ (by omega),Int.add_mul]
theorem signed_mul (s t:Bool) (m n a b:Nat):signed (s ^^ t) (m * n) (a+b)=signed s m a * signed t n b:=by
  have e:m * n * 2^(a+b)=(m * 2^a) * (n * 2^b):=by rw [Nat.pow_add];ac_rfl
  unfold signed
  rw [Nat.shiftLeft_eq,Nat.shiftLeft_eq,Nat.shiftLeft_eq,e,Int.natCast_mul]
  cases s <;> cases t <;> simp [Int.neg_mul,Int.mul_neg]
theorem di_product {x y:Datum} {a b:Int} (hx:DIf x a) (hy:DIf y b):∃ d,x.product y=some d∧DIf d (a * b):=by
  obtain ⟨s,m,i,rfl⟩:=hx.num
  obtain ⟨t,n,j,rfl⟩:=hy.num
  refine ⟨_,rfl,?_⟩
  refine ⟨_,_,_,(-i).toNat+(-j).toNat,rfl,by omega,?_⟩
  have e1:(i+j+(((-i).toNat+(-j).toNat:Nat):Int)).toNat=(i+((-i).toNat:Int)).toNat+(j+((-j).toNat:Int)).toNat:=by omega
  rw [e1,signed_mul,hx.at' _ (by omega),hy.at' _ (by omega),Int.pow_add]
  ac_rfl
theorem di_opposite {x:Datum} {a:Int} (hx:DIf x a):DIf x.opposite (-a):=by
  obtain ⟨s,m,e,K,rfl,h0,h1⟩:=hx
  refine ⟨!s,m,e,K,rfl,h0,?_⟩
  rw [Int.neg_mul,← h1]
  unfold signed
  cases s <;> simp
theorem log2_shift (m a:Nat) (h:m≠0):(m * 2^a).log2=m.log2+a:=by
  have hp:0 < 2^a:=Nat.two_pow_pos a
  have h0:m * 2^a≠0:=Nat.mul_ne_zero h (by omega)
  have h1:=Nat.log2_self_le h
  have h2:=@Nat.lt_log2_self m
  have h3:m.log2+a≤(m * 2^a).log2:=(Nat.le_log2 h0).2 (by rw [Nat.pow_add];exact Nat.mul_le_mul_right _ h1)
  have h4:(m * 2^a).log2 < m.log2+1+a:=(Nat.log2_lt h0).2 (by rw [Nat.pow_add _ _ a];exact Nat.mul_lt_mul_of_pos_right h2 hp)
  omega
theorem cut_exact (way:Toward) (s:Bool) (x drop:Nat):way.cut s (x * 2^drop) drop=x:=by
  have hp:0 < 2^drop:=Nat.two_pow_pos drop
  by_cases hx:x=0
  · subst hx
    unfold Toward.cut
    cases way <;> simp [Nat.shiftLeft_eq]
  · have hd:min drop ((x * 2^drop).log2+2)=drop:=by rw [log2_shift x drop hx];omega
    unfold Toward.cut
    rw [hd]
    simp only [Nat.shiftLeft_eq,Nat.one_mul,Nat.mul_mod_left,Nat.mul_div_cancel _ hp]
    have hz:(2^drop == 0)=false:=by simp
    cases way <;> simp [hz]
theorem double_fractionBits:double.fractionBits=52:=rfl
theorem double_leastPlace:double.leastPlace=-1074:=by decide
theorem double_binade:double.binade=4503599627370496:=by decide
theorem double_infRung:double.infRung=9218868437227405312:=by decide
theorem double_signWeight:double.signWeight=9223372036854775808:=by decide
theorem read_word (s:Bool) (L kept:Nat) (hL:L≤52) (h1:4503599627370496≤kept) (h2:kept < 9007199254740992) :
    double.read (double.word s ((L+1022) * 4503599627370496+kept))=.number s kept ((L:Int) - 52):=by
  unfold Format.read Format.word
  dsimp only
  rw [double_signWeight,double_binade,double_infRung,double_leastPlace]
  cases s
  · have e1:((L+1022) * 4503599627370496+kept)%9223372036854775808=(L+1022) * 4503599627370496+kept:=by omega
    have e2:((L+1022) * 4503599627370496+kept) / 9223372036854775808%2=0:=by omega
    have e3:¬ (L+1022) * 4503599627370496+kept < 4503599627370496:=by omega
    have e4:(L+1022) * 4503599627370496+kept < 9218868437227405312:=by omega
    have e5:4503599627370496+((L+1022) * 4503599627370496+kept)%4503599627370496=kept:=by omega
    have e6:((L+1022) * 4503599627370496+kept) / 4503599627370496=L+1023:=by omega
    rw [if_neg Bool.false_ne_true,e1,e2,if_neg e3,if_pos e4,e5,e6]
    exact congrArg _ (by omega)
  · have e0:(9223372036854775808+((L+1022) * 4503599627370496+kept))%9223372036854775808=(L+1022) * 4503599627370496+kept:=by omega
    have e2:(9223372036854775808+((L+1022) * 4503599627370496+kept)) / 9223372036854775808%2=1:=by omega
    have e3:¬ (L+1022) * 4503599627370496+kept < 4503599627370496:=by omega
    have e4:(L+1022) * 4503599627370496+kept < 9218868437227405312:=by omega
    have e5:4503599627370496+((L+1022) * 4503599627370496+kept)%4503599627370496=kept:=by omega
    have e6:((L+1022) * 4503599627370496+kept) / 4503599627370496=L+1023:=by omega
    rw [if_pos rfl,e0,e2,if_neg e3,if_pos e4,e5,e6]
    exact congrArg _ (by omega)
theorem di_signs {s:Bool} {m:Nat} {e n:Int} (h:DIf (.number s m e) n) (K:Nat) (hK:0≤e+(K:Int)) :
    m * 2^(e+K).toNat=n.natAbs * 2^K∧(m≠0→s=decide (n < 0)):=by
  have h1:=h.at' K hK
  have hp:0 < (2:Int)^K:=Int.pow_pos (by decide)
  have hq:0 < (2:Nat)^(e+K).toNat:=Nat.two_pow_pos _
  unfold signed at h1
  rw [Nat.shiftLeft_eq] at h1
  refine ⟨?_,?_⟩
  · have h2:=congrArg Int.natAbs h1
    rw [Int.natAbs_mul,Int.natAbs_pow] at h2
    cases s
    · simpa [Int.natAbs_mul,Int.natAbs_pow] using h2
    · simpa [Int.natAbs_mul,Int.natAbs_pow] using h2
  · intro hm
    have hmp:0 < m * 2^(e+K).toNat:=Nat.mul_pos (Nat.pos_of_ne_zero hm) hq
    by_cases hn:n < 0
    · have:n * 2^K < 0:=Int.mul_neg_of_neg_of_pos hn hp
      cases s
      · simp only [Bool.false_eq_true,if_false] at h1;omega
      · simp [hn]
    · have:0≤n * 2^K:=Int.mul_nonneg (by omega) (by omega)
      cases s
      · simp [hn]
      · simp only [if_true] at h1;omega
theorem di_write {d:Datum} {n:Int} (h:DIf d n) (hn:n.natAbs < 9007199254740992):DIf (double.read (double.write d)) n:=by
  obtain ⟨s,m,e,rfl⟩:=h.num
  by_cases hm:m=0
  · subst hm
    have h1:=(di_signs h (-e).toNat (by omega)).1
    rw [Nat.zero_mul] at h1
    have hz:n.natAbs=0:=by
      rcases Nat.mul_eq_zero.1 h1.symm with h | h
      · exact h
      · exact absurd h (by have:=Nat.two_pow_pos (-e).toNat;omega)
    have hn0:n=0:=by omega
    subst hn0
    have hr:double.read (double.write (.number s 0 e))=.number s 0 (-1074):=by
      have hw:double.write (.number s 0 e)=double.word s 0:=rfl
      rw [hw]
      cases s <;> decide
    rw [hr]
    exact ⟨s,0,-1074,1074,rfl,by decide,by rw [signed_zero,Int.zero_mul]⟩
  · have hN:n.natAbs≠0:=by
      intro h0
      have h1:=(di_signs h (-e).toNat (by omega)).1
      rw [h0,Nat.zero_mul] at h1
      rcases Nat.mul_eq_zero.1 h1 with h | h
      · exact hm h
      · exact absurd h (by have:=Nat.two_pow_pos (e+((-e).toNat:Int)).toNat;omega)
    have hs:=(di_signs h (-e).toNat (by omega)).2 hm
    have hlog:(m.log2:Int)+e=n.natAbs.log2:=by
      have h1:=congrArg Nat.log2 (di_signs h (-e).toNat (by omega)).1
      rw [log2_shift _ _ hm,log2_shift _ _ hN] at h1
      omega
    have hL:n.natAbs.log2≤52:=by
      have:=(Nat.log2_lt hN (k:=53)).2 (by omega)
      omega
    have hlo:=Nat.log2_self_le hN
    have hhi:=@Nat.lt_log2_self n.natAbs
    generalize hLg:n.natAbs.log2=L at *
    have hlast:max (e+(m.log2:Int) - 52) (-1074)=(L:Int) - 52:=by omega
    have hkept:Toward.even.cut s (m <<< (e - ((L:Int) - 52)).toNat) ((L:Int) - 52 - e).toNat=n.natAbs * 2^(52 - L):=by
      rw [Nat.shiftLeft_eq]
      have hx:m * 2^(e - ((L:Int) - 52)).toNat=n.natAbs * 2^(52 - L) * 2^((L:Int) - 52 - e).toNat:=by
        by_cases hc:0≤e+((52 - L:Nat):Int)
        · have h1:=(di_signs h (52 - L) hc).1
          have e1:(e - ((L:Int) - 52)).toNat=(e+((52 - L:Nat):Int)).toNat:=by omega
          have e2:((L:Int) - 52 - e).toNat=0:=by omega
          rw [e1,e2,h1];simp
        · have h1:=(di_signs h ((52 - L)+((L:Int) - 52 - e).toNat) (by omega)).1
          have e1:(e - ((L:Int) - 52)).toNat=(e+(((52 - L)+((L:Int) - 52 - e).toNat:Nat):Int)).toNat:=by omega
          rw [e1,h1,Nat.pow_add,Nat.mul_assoc]
      rw [hx,cut_exact]
    have hk1:4503599627370496≤n.natAbs * 2^(52 - L):=by
      have h1:2^L * 2^(52 - L)≤n.natAbs * 2^(52 - L):=Nat.mul_le_mul_right _ hlo
      rw [← Nat.pow_add] at h1
      have e1:L+(52 - L)=52:=by omega
      rw [e1] at h1
      exact h1
    have hk2:n.natAbs * 2^(52 - L) < 9007199254740992:=by
      have h1:n.natAbs * 2^(52 - L) < 2^(L+1) * 2^(52 - L):=Nat.mul_lt_mul_of_pos_right hhi (Nat.two_pow_pos _)
      rw [← Nat.pow_add] at h1
      have e1:L+1+(52 - L)=53:=by omega
      rw [e1] at h1
      exact h1
    have hwrite:double.write (.number s m e)=double.word s ((L+1022) * 4503599627370496+n.natAbs * 2^(52 - L)):=by
      show double.nearest s m e=_
      unfold Format.nearest
      rw [if_neg hm]
      simp only [double_fractionBits,double_leastPlace,double_binade,double_infRung]
      have e52:((52:Nat):Int)=52:=rfl
      rw [e52,hlast,hkept]
      have e1:((L:Int) - 52 - -1074).toNat=L+1022:=by omega
      rw [e1,Nat.min_eq_left (by omega)]
    rw [hwrite,read_word s L _ hL hk1 hk2]
    refine ⟨s,_,_,52 - L,rfl,by omega,?_⟩
    have e1:((L:Int) - 52+((52 - L:Nat):Int)).toNat=0:=by omega
    rw [e1]
    unfold signed
    rw [hs]
    have hpc:((2^(52 - L):Nat):Int)=(2:Int)^(52 - L):=by simp
    by_cases hneg:n < 0
    · simp only [hneg,decide_true,if_true,Nat.shiftLeft_zero]
      rw [Int.natCast_mul,hpc,← Int.neg_mul]
      congr 1
      omega
    · simp only [hneg,decide_false,Bool.false_eq_true,if_false,Nat.shiftLeft_zero]
      rw [Int.natCast_mul,hpc]
      congr 1
      omega
theorem di_toInt {d:Datum} {n:Int} (h:DIf d n):d.toInt .zero=some n:=by
  obtain ⟨s,m,e,rfl⟩:=h.num
  show some (signed s (Toward.zero.cut s (m <<< e.toNat) (-e).toNat) 0)=some n
  rw [Nat.shiftLeft_eq]
  have h1:=di_signs h (-e).toNat (by omega)
  have e1:(e+((-e).toNat:Int)).toNat=e.toNat:=by omega
  rw [e1] at h1
  rw [h1.1,cut_exact]
  by_cases hm:m=0
  · have h0:=h1.1
    rw [hm,Nat.zero_mul] at h0
    have hz:n.natAbs=0:=by
      rcases Nat.mul_eq_zero.1 h0.symm with h | h
      · exact h
      · exact absurd h (by have:=Nat.two_pow_pos (-e).toNat;omega)
    rw [hz,signed_zero]
    congr 1
    omega
  · rw [signed_natAbs n s (fun _=>h1.2 hm)]
    simp
def FI (b:Nat) (n:Int):Prop:=DIf (FloatKind.f64.format.read b) n
theorem fi_map {d:Option Datum} {n:Int} (hd:∃ x,d=some x∧DIf x n) (hn:n.natAbs < 9007199254740992):∃ r,d.map FloatKind.f64.format.write=some r∧FI r n:=by
  obtain ⟨x,rfl,hx⟩:=hd
  exact ⟨_,rfl,di_write hx hn⟩
theorem fi_add {x y:Nat} {a b:Int} (hx:FI x a) (hy:FI y b) (h:(a+b).natAbs < 9007199254740992):∃ r,floatBits .add .f64 x y=some r∧FI r (a+b):=
  fi_map (di_sum hx hy) h
theorem fi_sub {x y:Nat} {a b:Int} (hx:FI x a) (hy:FI y b) (h:(a - b).natAbs < 9007199254740992):∃ r,floatBits .sub .f64 x y=some r∧FI r (a - b):=
  fi_map (di_sum hx (di_opposite hy)) h
theorem fi_mul {x y:Nat} {a b:Int} (hx:FI x a) (hy:FI y b) (h:(a * b).natAbs < 9007199254740992):∃ r,floatBits .mul .f64 x y=some r∧FI r (a * b):=
  fi_map (di_product hx hy) h
theorem fi_ofInt (n:Int) (h:n.natAbs < 9007199254740992):FI (floatOfInt .f64 n) n:=by
  refine di_write (d:=.number (n < 0) n.natAbs 0) ⟨_,_,_,0,rfl,by decide,?_⟩ h
  rw [signed_natAbs n _ (fun _=>rfl)]
  simp
theorem fi_toInt {b:Nat} {n:Int} (dst:IntKind) (h:FI b n) (h1:dst.min≤n) (h2:n≤dst.max):floatToIntVal .f64 b dst=some n:=by
  have e:(FloatKind.f64.decode b).toInt .zero=some n:=di_toInt h
  unfold floatToIntVal
  rw [e]
  simp [h1,h2]
theorem ci_mul {a b c d:Nat} {A B C D:Int} (ha:FI a A) (hb:FI b B) (hc:FI c C) (hd:FI d D)
    (bA:A.natAbs≤65536) (bB:B.natAbs≤65536) (bC:C.natAbs≤65536) (bD:D.natAbs≤65536) :
    ∃ re im,cMulBits a b c d=some (re,im)∧FI re (A * C - B * D)∧FI im (A * D+B * C):=by
  have bound:∀ {X Y:Int},X.natAbs≤65536→Y.natAbs≤65536→(X * Y).natAbs≤4294967296:=fun hX hY=>by
    rw [Int.natAbs_mul];exact Nat.mul_le_mul hX hY
  have b1:=bound bA bC
  have b2:=bound bB bD
  have b3:=bound bA bD
  have b4:=bound bB bC
  obtain ⟨ac,e1,f1⟩:=fi_mul ha hc (by omega)
  obtain ⟨bd,e2,f2⟩:=fi_mul hb hd (by omega)
  obtain ⟨re,e3,f3⟩:=fi_sub f1 f2 (by omega)
  obtain ⟨ad,e4,f4⟩:=fi_mul ha hd (by omega)
  obtain ⟨bc,e5,f5⟩:=fi_mul hb hc (by omega)
  obtain ⟨im,e6,f6⟩:=fi_add f4 f5 (by omega)
  exact ⟨re,im,by simp [cMulBits,e1,e2,e3,e4,e5,e6],f3,f6⟩
theorem ci_add {a b c d:Nat} {A B C D:Int} (ha:FI a A) (hb:FI b B) (hc:FI c C) (hd:FI d D)
    (h1:(A+C).natAbs < 9007199254740992) (h2:(B+D).natAbs < 9007199254740992) :
    ∃ re im,cSumBits .add .f64 a b c d=some (re,im)∧FI re (A+C)∧FI im (B+D):=by
  obtain ⟨re,e1,f1⟩:=fi_add ha hc h1
  obtain ⟨im,e2,f2⟩:=fi_add hb hd h2
  exact ⟨re,im,by simp [cSumBits,e1,e2],f1,f2⟩
theorem fi_one:FI 4607182418800017408 1:=by
  have e:(4607182418800017408:Nat)=floatOfInt .f64 1:=by decide +kernel
  rw [e];exact fi_ofInt 1 (by decide)
theorem fi_two:FI 4611686018427387904 2:=by
  have e:(4611686018427387904:Nat)=floatOfInt .f64 2:=by decide +kernel
  rw [e];exact fi_ofInt 2 (by decide)
theorem fi_zero:FI 0 0:=by
  have e:(0:Nat)=floatOfInt .f64 0:=by decide +kernel
  rw [e];exact fi_ofInt 0 (by decide)
end Go.Proofs.YtcefmpnijjcekaaGreatDoor
namespace Go.Proofs.YtcefmpnijjcekaaGreatDoor
abbrev Pair:=Int × Int
def red (r:Pair):Pair:=(r.1%65521,r.2%65521)
def stepU (r:Pair) (x:Int):Pair:=(2 * r.1 - r.2+x,r.1+2 * r.2)
def bhdU (l:List Int) (r:Pair):Pair:=l.foldl stepU r
def bhd (l:List Int) (r:Pair):Pair:=l.foldl (fun r x=>red (stepU r x)) r
def sm (r:Pair):Int:=r.1 * 65536+r.2
def ofS (s:Int):Pair:=((s / 65536)%65521,(s%65536)%65521)
def Red (r:Pair):Prop:=0≤r.1∧r.1 < 65521∧0≤r.2∧r.2 < 65521
theorem red_Red (r:Pair):Red (red r):=by unfold Red red;simp only;omega
theorem red_of_Red {r:Pair} (h:Red r):red r=r:=by
  unfold Red at h;unfold red
  exact Prod.ext (by simp only;omega) (by simp only;omega)
theorem red_stepU (r:Pair) (x:Int):red (stepU (red r) x)=red (stepU r x):=by
  unfold red stepU
  exact Prod.ext (by simp only;omega) (by simp only;omega)
theorem bhd_red (l:List Int):∀ r:Pair,bhd l (red r)=red (bhdU l r):=by
  induction l with
  | nil=>intro r;rfl
  | cons x l ih=>
    intro r
    show bhd l (red (stepU (red r) x))=red (bhdU l (stepU r x))
    rw [red_stepU,ih]
theorem bhd_of_Red (l:List Int) {r:Pair} (h:Red r):bhd l r=red (bhdU l r):=by
  rw [← bhd_red,red_of_Red h]
theorem bhd_Red (l:List Int) {r:Pair} (h:Red r):Red (bhd l r):=by
  rw [bhd_of_Red l h];exact red_Red _
theorem bhd_snoc (l:List Int) (x:Int) (r:Pair):bhd (l ++ [x]) r=red (stepU (bhd l r) x):=by
  unfold bhd;rw [List.foldl_append];rfl
theorem ofS_Red (s:Int):Red (ofS s):=by unfold Red ofS;simp only;omega
theorem sm_bounds {r:Pair} (h:Red r):0≤sm r∧sm r < 4294967296:=by
  unfold Red at h;unfold sm;omega
def moreS (s:Int) (l:List Int):Int:=sm (bhd l (ofS s))
def sumS (l:List Int):Int:=sm (bhd l (1,0))
theorem one_Red:Red (1,0):=by unfold Red;simp only;omega
theorem sumS_bounds (l:List Int):0≤sumS l∧sumS l < 4294967296:=sm_bounds (bhd_Red l one_Red)
theorem ofS_65536:ofS 65536=(1,0):=by decide
theorem sumS_more (l:List Int):sumS l=moreS 65536 l:=by unfold sumS moreS;rw [ofS_65536]
theorem tmod_facts (x:Int):(∃ k,x=x.tmod 65521+65521 * k)∧-65521 < x.tmod 65521∧x.tmod 65521 < 65521∧(0≤x→x.tmod 65521=x%65521)∧(0≤x.tmod 65521→x.tmod 65521=x%65521)∧(x.tmod 65521 < 0→x.tmod 65521+65521=x%65521):=by
  have h1:=Int.tmod_add_mul_tdiv x 65521
  have h2:x.tmod 65521 < 65521:=Int.tmod_lt_of_pos x (by decide)
  have h3:-65521 < x.tmod 65521:=by
    have:=Int.lt_tmod_of_pos x (b:=65521) (by decide)
    omega
  refine ⟨⟨x.tdiv 65521,h1.symm⟩,h3,h2,fun h=>Int.tmod_eq_emod_of_nonneg h,fun h=>?_,fun h=>?_⟩ <;> omega
end Go.Proofs.YtcefmpnijjcekaaGreatDoor
namespace Go.Proofs.YtcefmpnijjcekaaGreatDoor
open Go.RowKit
theorem tmod_lt (n:Int) (h:n.tmod 65521 < 0):n.tmod 65521+65521=n%65521:=(tmod_facts n).2.2.2.2.2 h
theorem tmod_ge (n:Int) (h:¬ n.tmod 65521 < 0):n.tmod 65521=n%65521:=(tmod_facts n).2.2.2.2.1 (by omega)
def regV (r:Pair):Value:=.complex .f64 (floatOfInt .f64 r.1) (floatOfInt .f64 r.2)
set_option maxHeartbeats 400000 in
theorem rest_any (b:Nat) (n:Int) (w:World) (h:FI b n) (hn:n.natAbs < 9007199254740992) :
    Calls Tryz.prog 248 #[.float .f64 b] w fun e w'=>e=.returned (.float .f64 (floatOfInt .f64 (n%65521)))∧w=w':=by
  have hv:=fi_toInt .i64 h (by show -9223372036854775808≤n;omega) (by show n≤9223372036854775807;omega)
  have hop:∀ w,(convert 149 2 (.float .f64 b)).run Tryz.prog w=.ok (.int .i64 n) w:=fun w=>run_convert_float_int w 149 2 .f64 .i64 b n (by rw [Tryz.underlying149];rfl) Tryz.underlying2 hv
  have ht:=tmod_facts n
  have h1:=ht.2.1
  have h2:=ht.2.2.1
  clear hv ht
  by_cases hneg:n.tmod 65521 < 0
  · have he:=tmod_lt n hneg
    go_enter Tryz.func248,Tryz.ntmps248
    go_wp2_with (simp only [hop])
    go_ret
    exact ⟨rfl,rfl⟩
  · have he:=tmod_ge n hneg
    go_enter Tryz.func248,Tryz.ntmps248
    go_wp2_with (simp only [hop])
    go_ret
    exact ⟨rfl,rfl⟩
set_option maxHeartbeats 400000 in
theorem reduced_any (x y:Nat) (a b:Int) (w:World) (hx:FI x a) (hy:FI y b) (ha:a.natAbs < 9007199254740992) (hb:b.natAbs < 9007199254740992) :
    Calls Tryz.prog 227 #[.complex .f64 x y] w fun e w'=>e=.returned (regV (red (a,b)))∧w=w':=by
  go_enter Tryz.func227,Tryz.ntmps227
  go_wp2_with (go_at_call 248;refine (rest_any _ _ _ (by assumption) (by assumption)).mono ?_;rintro e w' ⟨rfl,rfl⟩)
  go_ret
  exact ⟨rfl,rfl⟩
theorem fi_fst {r:Pair} (h:Red r):FI (floatOfInt .f64 r.1) r.1:=fi_ofInt _ (by unfold Red at h;omega)
theorem fi_snd {r:Pair} (h:Red r):FI (floatOfInt .f64 r.2) r.2:=fi_ofInt _ (by unfold Red at h;omega)
set_option maxHeartbeats 400000 in
theorem sum_any (r:Pair) (w:World) (h:Red r) :
    Calls Tryz.prog 190 #[regV r] w fun e w'=>e=.returned (.int .u32 (sm r))∧w=w':=by
  have hR:=h
  unfold Red at hR
  obtain ⟨k0,k1,k2,k3⟩:=hR
  have c1:∀ w,(convert 149 138 (.float .f64 (floatOfInt .f64 r.1))).run Tryz.prog w=.ok (.int .u32 r.1) w:=fun w=>
    run_convert_float_int w 149 138 .f64 .u32 _ r.1 (by rw [Tryz.underlying149];rfl) Tryz.underlying138 (fi_toInt .u32 (fi_fst h) (by show 0≤r.1;omega) (by show r.1≤4294967295;omega))
  have c2:∀ w,(convert 149 138 (.float .f64 (floatOfInt .f64 r.2))).run Tryz.prog w=.ok (.int .u32 r.2) w:=fun w=>
    run_convert_float_int w 149 138 .f64 .u32 _ r.2 (by rw [Tryz.underlying149];rfl) Tryz.underlying138 (fi_toInt .u32 (fi_snd h) (by show 0≤r.2;omega) (by show r.2≤4294967295;omega))
  clear h
  unfold regV
  go_enter Tryz.func190,Tryz.ntmps190
  go_wp2_with (simp only [c1,c2])
  go_ret
  exact ⟨rfl,rfl⟩
theorem step_ops (R:Pair) (hR:Red R) (x:Int) (h0:0≤x) (h1:x≤255) :
    ∃ re im re2 im2:Nat,(∀ t w,(binOp .mul t (.complex .f64 4611686018427387904 4607182418800017408) (.complex .f64 (floatOfInt .f64 R.1) (floatOfInt .f64 R.2))).run Tryz.prog w=.ok (.complex .f64 re im) w)∧
      (∀ t w,(binOp .add t (.complex .f64 re im) (.complex .f64 (floatOfInt .f64 x) 0)).run Tryz.prog w=.ok (.complex .f64 re2 im2) w)∧
      FI re2 (stepU R x).1∧FI im2 (stepU R x).2∧(stepU R x).1.natAbs < 9007199254740992∧(stepU R x).2.natAbs < 9007199254740992:=by
  have hR':=hR
  unfold Red at hR'
  obtain ⟨re,im,e1,f1,f2⟩:=ci_mul fi_two fi_one (fi_fst hR) (fi_snd hR) (by omega) (by omega) (by omega) (by omega)
  have fx:=fi_ofInt x (by omega)
  obtain ⟨re2,im2,e2,f3,f4⟩:=ci_add f1 f2 fx fi_zero (by omega) (by omega)
  have s1:2 * R.1 - 1 * R.2+x=(stepU R x).1:=by unfold stepU;simp only;omega
  have s2:2 * R.2+1 * R.1+0=(stepU R x).2:=by unfold stepU;simp only;omega
  rw [s1] at f3
  rw [s2] at f4
  refine ⟨re,im,re2,im2,fun t w=>run_complex_mul w t _ _ _ _ _ _ e1,fun t w=>run_complex_sum w .add (Or.inl rfl) t .f64 _ _ _ _ _ _ e2,f3,f4,?_,?_⟩
  · rw [← s1];omega
  · rw [← s2];omega
set_option maxHeartbeats 400000 in
theorem behind_any (r:Pair) (a:Option Addr) (len cap:Nat) (zs:List Int) (w:World) (hr:Red r) (hb:Bts w a len zs) :
    Calls Tryz.prog 189 #[regV r,.slice a len cap] w fun e w'=>e=.returned (regV (bhd zs r))∧w=w':=by
  obtain ⟨hl,hm,hz,hc⟩:=hb
  rcases hc with rfl | ⟨b,off,rfl,hc⟩
  · have:zs=[]:=List.length_eq_zero_iff.1 hl
    subst this
    unfold regV
    go_enter Tryz.func189,Tryz.ntmps189
    go_wp2
    go_loop [0,9] (fun rv i=>i=.int .i64 0∧rv=.complex .f64 (floatOfInt .f64 r.1) (floatOfInt .f64 r.2)) (fun _ i=>0 - (intOf i).toNat)
    case atStart=>exact ⟨rfl,rfl⟩
    case round=>
      obtain ⟨rfl,rfl⟩:=hrel
      go_wp2
      go_ret
      exact ⟨rfl,rfl⟩
  · have HL:Hid (zs.length=len):=Lib.hid hl
    clear hl
    unfold regV
    go_enter Tryz.func189,Tryz.ntmps189
    go_wp2
    go_loop [0,9] (fun rv i=>∃ (k:Nat) (R:Pair),k≤len∧i=.int .i64 k∧rv=.complex .f64 (floatOfInt .f64 R.1) (floatOfInt .f64 R.2)∧R=bhd (zs.take k) r) (fun _ i=>len - (intOf i).toNat)
    case atStart=>exact ⟨0,r,Nat.zero_le _,rfl,rfl,rfl⟩
    case round=>
      obtain ⟨k,R,hk,rfl,rfl,hR⟩:=hrel
      have hRed:Red R:=by rw [hR];exact bhd_Red _ hr
      have HR:Hid (R=bhd (zs.take k) r):=Lib.hid hR
      clear hR
      by_cases hlt:k < len
      · have hcell:=hc k hlt
        have hx:=hz _ (getD_mem (l:=zs) (k:=k) (by rw [HL.out];exact hlt))
        have HN:Hid (bhd (zs.take (k+1)) r=red (stepU R (zs.getD k 0))):=Lib.hid (by rw [take_snoc zs k (by rw [HL.out];exact hlt),bhd_snoc,HR.out])
        obtain ⟨x,HX⟩:∃ x,Hid (x=zs.getD k 0):=⟨_,Lib.hid rfl⟩
        rw [← HX.out] at hcell hx HN
        obtain ⟨hx0,hx1⟩:=hx
        obtain ⟨re,im,re2,im2,o1,o2,f1,f2,b1,b2⟩:=step_ops R hRed x hx0 hx1
        clear hz hc
        go_wp2_with (first | (go_at_call 227;refine (reduced_any _ _ _ _ _ f1 f2 b1 b2).mono ?_;rintro e w' ⟨rfl,rfl⟩))
        go_round
        case rel=>exact ⟨k+1,red (stepU R x),by omega,by go_num,rfl,HN.out.symm⟩
        case measure=>simp [intOf];omega
      · have:k=len:=by omega
        subst this
        go_wp2
        go_ret
        have e1:zs.take k=zs:=List.take_of_length_le (by rw [HL.out];exact Nat.le_refl _)
        have e2:R=bhd zs r:=by rw [HR.out,e1]
        exact ⟨by rw [e2];rfl,rfl⟩
theorem one_bits:(4607182418800017408:Nat)=floatOfInt .f64 1:=by decide +kernel
theorem begin_regV:Value.complex .f64 4607182418800017408 0=regV (1,0):=by rw [one_bits];rfl
set_option maxHeartbeats 400000 in
theorem Sum_any (a:Option Addr) (len cap:Nat) (zs:List Int) (w:World) (hb:Bts w a len zs) :
    Calls Tryz.prog 143 #[.slice a len cap] w fun e w'=>e=.returned (.int .u32 (sumS zs))∧w=w':=by
  have c2:=behind_any (1,0) a len cap zs w one_Red hb
  have c3:=sum_any (bhd zs (1,0)) w (bhd_Red zs one_Red)
  rw [← begin_regV] at c2
  clear hb
  go_enter Tryz.func143,Tryz.ntmps143
  go_wp2_with (first | (go_at_call 189;refine c2.mono ?_;rintro e w' ⟨rfl,rfl⟩) | (go_at_call 190;refine c3.mono ?_;rintro e w' ⟨rfl,rfl⟩))
  go_ret
  exact ⟨rfl,rfl⟩
theorem tmod_again (x:Int):(x.tmod 65521+65521)%65521=x%65521:=by
  obtain ⟨⟨k,hk⟩,h⟩:=tmod_facts x
  omega
end Go.Proofs.YtcefmpnijjcekaaGreatDoor
namespace Go.Proofs.YtcefmpnijjcekaaGreatDoor
open Go.RowKit
set_option maxHeartbeats 400000 in
theorem fSum_any (ao:Option Addr) (cap:Nat) (zs:List Int) (w:World) (hA:Arg w ao 64 cap zs) :
    Calls Tryz.prog 90 #[.slice ao 64 cap] w fun e w'=>e=.returned (.string (str (leB (sumS (zs.take 60)) 4)))∧Below w.heap.size w w':=by
  obtain ⟨hB,_,hcap,_⟩:=hA
  obtain ⟨b,off,rfl,_⟩:=hB.2.2.2.resolve_left (by decide)
  have cS:=Sum_any (some ⟨b,off,none⟩) 60 cap (zs.take 60) w (bts_take hB (by decide))
  have hSb:=sumS_bounds (zs.take 60)
  have cB:=fBytes_any 4 (sumS (zs.take 60)) w (by decide)
  rw [show ((4:Nat):Int)=4 from rfl] at cB
  generalize sumS (zs.take 60)=S at *
  have i2:(60:Int)≤(cap:Int):=by omega
  clear hB
  go_enter Tryz.func90,Tryz.ntmps90
  go_wp2_with (first | (go_at_call 143;refine cS.mono ?_;rintro e w' ⟨rfl,rfl⟩) | (go_at_call 142;refine cB.mono ?_;rintro e w2 ⟨rfl,hb2⟩;have HB2:=Lib.hid hb2;clear hb2))
  go_ret
  exact ⟨rfl,HB2.out⟩
set_option maxHeartbeats 400000 in
theorem fSeal_any (ao:Option Addr) (len cap:Nat) (zs:List Int) (w:World) (hA:Arg w ao len cap zs) :
    Calls Tryz.prog 77 #[.slice ao len cap] w (Handed w.heap.size w (sealOut sumS zs) (sealErr len)):=by
  have hl:=hA.1.1
  by_cases h64:len=64
  · subst h64
    have HE8:Hid (sealOut sumS zs=lay zs 60 (bytesOf (str (leB (sumS (zs.take 60)) 4)))):=Lib.hid (by
      unfold sealOut
      rw [if_pos hl,sealOf_take hl,bytesOf_str (leB_bytes _ _),lay_eq _ _ _ (by rw [hl,leB_length];decide),leB_length,List.drop_of_length_le (by rw [hl];decide),List.append_nil])
    have cS:=fSum_any ao cap zs w hA
    have HC:Hid (∀ w2,Below w.heap.size w w2→Calls Tryz.prog 132 #[.slice ao 64 cap,.int .i64 60,.string (str (leB (sumS (zs.take 60)) 4))] w2 (Gives w2.heap.size w2 (lay zs 60 (bytesOf (str (leB (sumS (zs.take 60)) 4)))))):=
      Lib.hid (fun w2 hb=>fWith_any ao cap zs 60 _ w2 (hA.1.later hb) (by rw [str_size,leB_length];decide) (by decide))
    clear hA hl
    rw [show sealErr 64=0 from rfl]
    go_enter Tryz.func77,Tryz.ntmps77
    go_wp2_with (first | (go_at_call 90;refine cS.mono ?_;rintro e w2 ⟨rfl,hb2⟩;have HB2:=Lib.hid hb2;clear hb2) | (go_at_call 132;refine (HC.out _ HB2.out).mono ?_;rintro e w3 ⟨v3,rfl,hf3,hb3⟩;have HF3:=Lib.hid hf3;have HB3:=Lib.hid hb3;clear hf3 hb3))
    go_ret2
    exact ⟨v3,rfl,by rw [HE8.out];exact HF3.out.mono HB2.out.size,HB2.out.trans (HB3.out.mono HB2.out.size)⟩
  · have HE8:Hid (sealOut sumS zs=[]):=Lib.hid (by unfold sealOut;rw [if_neg (by omega)])
    have hne:((len:Int) != 64)=true:=by simp;omega
    have HE7:Hid (sealErr len=2):=Lib.hid (by unfold sealErr;rw [if_neg h64])
    clear hA hl
    go_enter Tryz.func77,Tryz.ntmps77
    go_wp2
    go_ret2
    exact ⟨.slice none 0 0,by rw [HE7.out];rfl,by rw [HE8.out];exact Fresh.nil _ _,Below.refl _ _⟩
end Go.Proofs.YtcefmpnijjcekaaGreatDoor
namespace Go.Proofs.YtcefmpnijjcekaaGreatDoor
open Go.RowKit
set_option maxHeartbeats 400000 in
theorem Num04_any (ao:Option Addr) (len cap:Nat) (zs:List Int) (p k:Nat) (w:World) (hB:Bts w ao len zs) (hk:k≤4) (hpk:p+k≤len) :
    Calls Tryz.prog 51 #[.slice ao len cap,.int .i64 p,.int .i64 k] w fun e w'=>e=.returned (.int .i64 (leN zs p k))∧w=w':=by
  obtain ⟨hl,hm,hz,hc⟩:=hB
  have HL:=Lib.hid hl
  have hb:=leN_four hz p k (by omega) hk
  obtain ⟨t,HT⟩:∃ t,Hid (t=leN zs p k):=⟨_,Lib.hid rfl⟩
  rw [← HT.out] at hb ⊢
  clear hl
  rcases hc with rfl | ⟨b,off,rfl,hc⟩
  · have hk0:k=0:=by omega
    subst hk0
    have ht:t=0:=HT.out
    subst ht
    go_enter Tryz.func51,Tryz.ntmps51
    go_wp2
    go_loop [7,8] (fun nv iv=>iv=.int .i64 (-1)∧nv=.int .i64 0) (fun _ iv=>(intOf iv+1).toNat)
    case atStart=>exact ⟨rfl,rfl⟩
    case round=>
      obtain ⟨rfl,rfl⟩:=hrel
      go_wp2
      go_ret
      exact ⟨rfl,rfl⟩
  · go_enter Tryz.func51,Tryz.ntmps51
    go_wp2
    go_loop [7,8] (fun nv iv=>∃ (j:Nat) (n:Int),j≤k∧iv=.int .i64 ((j:Int) - 1)∧nv=.int .i64 n∧0≤n∧n≤t∧n * 256^j+leN zs p j=t) (fun _ iv=>(intOf iv+1).toNat)
    case atStart=>exact ⟨k,0,Nat.le_refl _,rfl,rfl,by decide,by omega,by rw [Int.zero_mul,Int.zero_add,HT.out]⟩
    case round=>
      obtain ⟨j,n,hj,rfl,rfl,hn0,hn1,hrel⟩:=hrel
      rcases j with _ | j
      · have:n=t:=by rw [← hrel];show n=n * 1+0;omega
        subst this
        clear hrel
        go_wp2
        go_ret
        exact ⟨rfl,rfl⟩
      · have HS:=Lib.hid (le_step hrel)
        have hx:=hz _ (getD_mem (l:=zs) (k:=p+j) (by rw [HL.out];omega))
        have hpart:=le_part hz (n:=n * 256+zs.getD (p+j) 0) (k:=j) (p:=p) (by omega) (by rw [HL.out];omega) HS.out
        have hcell:=hc (p+j) (by omega)
        obtain ⟨x,HX⟩:∃ x,Hid (x=zs.getD (p+j) 0):=⟨_,Lib.hid rfl⟩
        rw [← HX.out] at hx hpart hcell HS
        obtain ⟨hx0,hx1⟩:=hx
        clear hz hc hrel
        have e1:((j+1:Nat):Int) - 1=(j:Int):=by omega
        rw [e1]
        clear e1
        have i1:(0:Int)≤(p:Int)+(j:Int):=by omega
        have i2:(p:Int)+(j:Int) < (len:Int):=by omega
        go_wp2
        go_round
        case rel=>exact ⟨j,n * 256+x,by omega,rfl,rfl,by omega,hpart,HS.out⟩
        case measure=>simp [intOf]
end Go.Proofs.YtcefmpnijjcekaaGreatDoor
namespace Go.Proofs.YtcefmpnijjcekaaGreatDoor
theorem seal_short {sum:List Int→Int} {l:List Int} (h:l.length≤60):sealOf sum l=(l ++ List.replicate (60 - l.length) 0) ++ leB (sum (l ++ List.replicate (60 - l.length) 0)) 4:=by
  have e:(l ++ List.replicate (60 - l.length) 0).take 60=l ++ List.replicate (60 - l.length) 0:=List.take_of_length_le (by rw [List.length_append,List.length_replicate];omega)
  unfold sealOf
  rw [e]
theorem seal_short_length {sum:List Int→Int} {l:List Int} (h:l.length≤60):(sealOf sum l).length=64:=by
  rw [seal_short h,List.length_append,leB_length,List.length_append,List.length_replicate]
  omega
theorem leN_of_eq {zs ys:List Int} {p q:Nat}:∀ (k:Nat),(∀ j,j < k→zs.getD (p+j) 0=ys.getD (q+j) 0)→leN zs p k=leN ys q k
  | 0,_=>rfl
  | k+1,h=>by
    show leN zs p k+zs.getD (p+k) 0 * 256^k=leN ys q k+ys.getD (q+k) 0 * 256^k
    rw [leN_of_eq k (fun j hj=>h j (by omega)),h k (by omega)]
theorem sealed_of {zs l:List Int} (hl:l.length≤60) (h64:zs.length=64) (h:∀ k,k < 60→zs.getD k 0=l.getD k 0):sealOf sumS zs=sealOf sumS l:=by
  have e:zs.take 60=l ++ List.replicate (60 - l.length) 0:=by
    refine List.ext_getElem (by rw [List.length_take,List.length_append,List.length_replicate];omega) (fun k h1 h2=>?_)
    rw [List.length_take] at h1
    have hk:=h k (by omega)
    rw [List.getD_eq_getElem?_getD,List.getElem?_eq_getElem (by omega),Option.getD_some] at hk
    rw [List.getElem_take,hk]
    by_cases hkl:k < l.length
    · rw [List.getElem_append_left hkl]
      simp [List.getD,hkl]
    · rw [List.getElem_append_right (by omega),List.getElem_replicate]
      simp [List.getD,List.getElem?_eq_none (show l.length≤k by omega)]
  rw [sealOf_take h64,seal_short hl,e]
end Go.Proofs.YtcefmpnijjcekaaGreatDoor
namespace Go.Proofs.YtcefmpnijjcekaaGreatDoor
open Go.RowKit
set_option maxHeartbeats 400000 in
theorem refMore_any (s:Int) (a:Option Addr) (len cap:Nat) (zs:List Int) (w:World) (h0:0≤s) (h1:s < 4294967296) (hb:Bts w a len zs) :
    Calls Tryz.prog 139 #[.int .u32 s,.slice a len cap] w fun e w'=>e=.returned (.int .u32 (moreS s zs))∧w=w':=by
  obtain ⟨hl,hm,hz,hc⟩:=hb
  rcases hc with rfl | ⟨b,off,rfl,hc⟩
  · have:zs=[]:=List.length_eq_zero_iff.1 hl
    subst this
    obtain ⟨R,HR⟩:∃ R,Hid (R=ofS s):=⟨_,Lib.hid rfl⟩
    have hRed:Red R:=by rw [HR.out];exact ofS_Red s
    unfold Red at hRed
    obtain ⟨k0,k1,k2,k3⟩:=hRed
    go_enter Tryz.func139,Tryz.ntmps139
    go_wp2
    go_loop [5,6,7] (fun av bv i=>i=.int .i64 0∧av=.int .i64 R.1∧bv=.int .i64 R.2) (fun _ _ i=>0 - (intOf i).toNat)
    case atStart=>exact ⟨rfl,by rw [HR.out];rfl,by rw [HR.out];rfl⟩
    case round=>
      obtain ⟨rfl,rfl,rfl⟩:=hrel
      go_wp2
      go_ret
      exact ⟨ret_int (by show R.1 * 65536+R.2=sm (ofS s);rw [HR.out];rfl),rfl⟩
  · have HL:Hid (zs.length=len):=Lib.hid hl
    clear hl
    go_enter Tryz.func139,Tryz.ntmps139
    go_wp2
    go_loop [5,6,7] (fun av bv i=>∃ (k:Nat) (R:Pair),k≤len∧i=.int .i64 k∧av=.int .i64 R.1∧bv=.int .i64 R.2∧R=bhd (zs.take k) (ofS s)) (fun _ _ i=>len - (intOf i).toNat)
    case atStart=>exact ⟨0,ofS s,Nat.zero_le _,rfl,rfl,rfl,rfl⟩
    case round=>
      obtain ⟨k,R,hk,rfl,rfl,rfl,hR⟩:=hrel
      have hRed:Red R:=by rw [hR];exact bhd_Red _ (ofS_Red s)
      have HR:Hid (R=bhd (zs.take k) (ofS s)):=Lib.hid hR
      clear hR
      have hRed':=hRed
      unfold Red at hRed'
      obtain ⟨k0,k1,k2,k3⟩:=hRed'
      by_cases hlt:k < len
      · have hcell:=hc k hlt
        have hx:=hz _ (getD_mem (l:=zs) (k:=k) (by rw [HL.out];exact hlt))
        have HN:Hid (bhd (zs.take (k+1)) (ofS s)=red (stepU R (zs.getD k 0))):=Lib.hid (by rw [take_snoc zs k (by rw [HL.out];exact hlt),bhd_snoc,HR.out])
        obtain ⟨x,HX⟩:∃ x,Hid (x=zs.getD k 0):=⟨_,Lib.hid rfl⟩
        rw [← HX.out] at hcell hx HN
        obtain ⟨hx0,hx1⟩:=hx
        have ht:=tmod_facts (2 * R.1 - R.2+x)
        have ht1:=ht.2.1
        have ht2:=ht.2.2.1
        clear hz hc ht
        go_wp2
        go_round
        case rel=>exact ⟨k+1,red (stepU R x),by omega,by go_num,by rw [tmod_again];rfl,rfl,HN.out.symm⟩
        case measure=>simp [intOf];omega
      · have:k=len:=by omega
        subst this
        go_wp2
        go_ret
        have e1:zs.take k=zs:=List.take_of_length_le (by rw [HL.out];exact Nat.le_refl _)
        have e2:R=bhd zs (ofS s):=by rw [HR.out,e1]
        exact ⟨ret_int (by unfold moreS;rw [← e2];rfl),rfl⟩
set_option maxHeartbeats 400000 in
theorem refSum_any (a:Option Addr) (len cap:Nat) (zs:List Int) (w:World) (hb:Bts w a len zs) :
    Calls Tryz.prog 84 #[.slice a len cap] w fun e w'=>e=.returned (.int .u32 (sumS zs))∧w=w':=by
  have c:=refMore_any 65536 a len cap zs w (by decide) (by decide) hb
  rw [← sumS_more] at c
  clear hb
  go_enter Tryz.func84,Tryz.ntmps84
  go_wp2_with (go_at_call 139;refine c.mono ?_;rintro e w' ⟨rfl,rfl⟩)
  go_ret
  exact ⟨rfl,rfl⟩
end Go.Proofs.YtcefmpnijjcekaaGreatDoor
namespace Go.Proofs.YtcefmpnijjcekaaGreatDoor
open Go.RowKit
def PutPost (base:Nat) (w0:World) (n:Nat) (l:List Int) (e:Ending) (w':World):Prop:=
  ∃ v,e=.returned v∧w'.ownsRow base 5 1 v n (l.map (Value.int .u8))∧Below base w0 w'
set_option maxHeartbeats 400000 in
theorem Put04_any (base:Nat) (v:Value) (len:Nat) (zs:List Int) (n:Int) (k:Nat) (w:World) (hown:w.ownsRow base 5 1 v len (zs.map (Value.int .u8))) (hbase:base≤w.heap.size)
    (hn0:0≤n) (hn1:n≤9223372036854775807) (hk:k≤8) (hlen:len≤140737488355320) :
    Calls Tryz.prog 40 #[v,.int .i64 n,.int .i64 k] w (PutPost base w (len+k) (zs ++ leB n k)):=by
  go_enter Tryz.func40,Tryz.ntmps40
  go_wp2
  have HO:=Lib.hid hown
  clear hown
  go_loopw [0,7] (fun vv iv wr=>∃ j:Nat,j≤k∧iv=.int .i64 j∧Hid (wr.ownsRow base 5 1 vv (len+j) ((zs ++ leB n j).map (Value.int .u8)))∧Hid (Below base w wr)) (fun _ iv _=>k - (intOf iv).toNat)
  case atStart=>exact ⟨0,Nat.zero_le _,rfl,Lib.hid (by rw [show leB n 0=[] from rfl,List.append_nil];exact HO.out),Lib.hid (Below.refl _ _)⟩
  case round=>
    obtain ⟨j,hj,rfl,HR,HB⟩:=hrel
    by_cases hlt:j < k
    · have HX:Hid (0≤n / 2^(8 * j)%256∧n / 2^(8 * j)%256≤255):=Lib.hid (by omega)
      have HS:Hid (base≤wr.heap.size+1):=Lib.hid (by have:=HB.out.size;omega)
      go_wp2_with (at_builtin;refine wp_append_bytes rfl (.tmp 13) (.tmp 21) rfl base (len+j) _ _ rfl (HR.out.alloc _) (some ⟨wr.heap.size,0,none⟩) 1 1 [n / 2^(8 * j)%256] rfl (one_bts wr _ HX.out) (by simp) (by omega) (by simpa using HS.out) ?_;intro v1 w1 hown1 hb1;have HO1:=Lib.hid hown1;have HB1:=Lib.hid hb1;clear hown1 hb1)
      go_roundw
      case rel=>
        refine ⟨j+1,by omega,by go_num,Lib.hid ?_,Lib.hid ((HB.out.alloc (by have:=HB.out.size;omega) _).trans HB1.out)⟩
        have e:=HO1.out
        rw [pow_two_bytes,← List.map_append,List.append_assoc] at e
        exact e
      case measure=>simp [intOf];omega
    · have hjk:j=k:=by omega
      subst hjk
      go_wp2
      go_ret
      exact ⟨_,rfl,HR.out,HB.out⟩
end Go.Proofs.YtcefmpnijjcekaaGreatDoor
namespace Go.Proofs.YtcefmpnijjcekaaGreatDoor
open Go.RowKit
set_option maxHeartbeats 400000 in
theorem Seal04_any (ao:Option Addr) (len cap:Nat) (zs:List Int) (w:World) (hA:Arg w ao len cap zs) :
    Calls Tryz.prog 41 #[.slice ao len cap] w (Gives w.heap.size w (sealOf sumS zs)):=by
  obtain ⟨hB,hnil,_,hlen⟩:=hA
  have hown:=World.ownsRow_made (base:=w.heap.size) (e:=5) (size:=1) w #[] 0 (Nat.le_refl _) (by decide) rfl
  have hb0:Below w.heap.size w (w.alloc (.cells #[] 5)):=(Below.refl _ _).alloc (Nat.le_refl _) _
  have hA0:=hB.later hb0
  have HL:=Lib.hid hB.1
  have HZ:=Lib.hid hB.2.2.1
  have HN:=Lib.hid hnil
  clear hB hnil
  go_enter Tryz.func41,Tryz.ntmps41
  go_wp2_with (at_builtin;refine wp_append_bytes rfl (.tmp 4) (.tmp 5) rfl w.heap.size 0 _ [] rfl hown ao len cap zs rfl hA0 HN.out (by omega) (by simp) ?_;intro v1 w1 hown1 hb1;have HB1:=Lib.hid (hb0.trans hb1);have HO1:=Lib.hid hown1;clear hown1 hb1 hown hA0)
  have HF:Hid (∃ ao1 c1,v1=.slice ao1 len c1):=Lib.hid (by
    have h:=HO1.out
    rw [Nat.zero_add,List.nil_append] at h
    obtain ⟨a,c,hv,_⟩:=owns_bts h HZ.out (by omega)
    exact ⟨a,c,hv⟩)
  go_loopw [3] (fun vv wr=>∃ (j:Nat) (ao1:Option Addr) (c1:Nat),(j=0∨len+j≤60)∧vv=.slice ao1 (len+j) c1∧Hid (wr.ownsRow w.heap.size 5 1 (.slice ao1 (len+j) c1) (len+j) ((zs ++ List.replicate j 0).map (Value.int .u8)))∧Hid (Below w.heap.size w wr)) (fun vv _=>60 - (match vv with | .slice _ n _=>n | _=>0))
  case atStart=>
    obtain ⟨a,c,hv⟩:=HF.out
    refine ⟨0,a,c,Or.inl rfl,hv,Lib.hid ?_,HB1⟩
    have h:=HO1.out
    rw [hv,Nat.zero_add,List.nil_append] at h
    simpa using h
  case round=>
    obtain ⟨j,ao1,c1,hj,rfl,HR,HB⟩:=hrel
    by_cases hlt:len+j < 60
    · have i1:((len+j:Nat):Int) < 60:=by omega
      have HS:Hid (w.heap.size≤wr.heap.size+1):=Lib.hid (by have:=HB.out.size;omega)
      go_wp2_with (at_builtin;refine wp_append_bytes rfl (.tmp 10) (.tmp 11) rfl w.heap.size (len+j) _ _ rfl (HR.out.alloc _) (some ⟨wr.heap.size,0,none⟩) 1 1 [0] rfl (one_bts wr 0 (by decide)) (by simp) (by omega) (by simpa using HS.out) ?_;intro v1 w1 hown1 hb1;have HO2:=Lib.hid hown1;have HB2:=Lib.hid hb1;clear hown1 hb1)
      have HF2:Hid (∃ ao2 c2,v1=.slice ao2 (len+(j+1)) c2):=Lib.hid (by
        have h:=HO2.out
        have e:zs ++ List.replicate j 0 ++ [0]=zs ++ List.replicate (j+1) 0:=by rw [List.append_assoc,← List.replicate_succ']
        rw [← List.map_append,e] at h
        obtain ⟨a,c,hv,_⟩:=owns_bts h (by
          intro z hz
          rcases List.mem_append.1 hz with hz | hz
          · exact HZ.out z hz
          · rw [List.eq_of_mem_replicate hz];decide) (by omega)
        exact ⟨a,c,hv⟩)
      obtain ⟨a,c,hv⟩:=HF2.out
      refine ⟨⟨j+1,a,c,by omega,hv,Lib.hid ?_,Lib.hid ((HB.out.alloc (by have:=HB.out.size;omega) _).trans HB2.out)⟩,?_⟩
      · have h:=HO2.out
        have e:zs ++ List.replicate j 0 ++ [0]=zs ++ List.replicate (j+1) 0:=by rw [List.append_assoc,← List.replicate_succ']
        rw [← List.map_append,e,hv] at h
        exact h
      · rw [hv]
        show 60 - (len+(j+1)) < 60 - (len+j)
        omega
    · have HT:Hid ((zs ++ List.replicate j 0).take 60=(zs ++ List.replicate (60 - zs.length) 0).take 60):=Lib.hid (by
        have hl:=HL.out
        rcases hj with rfl | hj
        · have e:60 - zs.length=0:=by omega
          rw [e]
        · have e:60 - zs.length=j:=by omega
          rw [e])
      have HLL:Hid (∀ z ∈ (zs ++ List.replicate j 0).take 60,0≤z∧z≤255):=Lib.hid (by
        intro z hz
        rcases List.mem_append.1 (List.mem_of_mem_take hz) with hz | hz
        · exact HZ.out z hz
        · rw [List.eq_of_mem_replicate hz];decide)
      obtain ⟨g,c2,hv,_,_⟩:=HR.out.form (by omega)
      simp only [Value.slice.injEq,true_and] at hv
      obtain ⟨rfl,rfl⟩:=hv
      have HR2:=Lib.hid (owns_take (k:=60) HR.out (by omega))
      rw [← List.map_take,HT.out] at HR2
      rw [HT.out] at HLL
      have hcap:len+j≤c1:=by
        rcases HR.out.2 with ⟨h,_⟩ | ⟨g',cap',cur,h,_,_,hc,_⟩
        · cases h
        · simp only [Value.slice.injEq,Option.some.injEq,Addr.mk.injEq,and_true,true_and] at h
          omega
      obtain ⟨ao3,c3,hv3,hB3⟩:=owns_bts HR2.out HLL.out (by decide)
      simp only [Value.slice.injEq,true_and] at hv3
      obtain ⟨rfl,rfl⟩:=hv3
      have HG:Hid (sealOf sumS zs=(zs ++ List.replicate (60 - zs.length) 0).take 60 ++ leB (sumS ((zs ++ List.replicate (60 - zs.length) 0).take 60)) 4):=Lib.hid rfl
      generalize (zs ++ List.replicate (60 - zs.length) 0).take 60=L at *
      have cS:=refSum_any (some ⟨g,0,none⟩) 60 c1 L wr.drew ((show Bts wr.drew (some ⟨g,0,none⟩) 60 L from hB3))
      have hSb:=sumS_bounds L
      have cP:=Put04_any w.heap.size (.slice (some ⟨g,0,none⟩) 60 c1) 60 L (sumS L) 4 wr.drew HR2.out.drew (show w.heap.size≤wr.heap.size from HB.out.size) hSb.1 (by omega) (by decide) (by decide)
      rw [show ((4:Nat):Int)=4 from rfl] at cP
      generalize sumS L=S at *
      clear hB3
      have i1:¬ ((len+j:Nat):Int) < 60:=by omega
      have i2:(60:Int)≤(c1:Int):=by omega
      have hw:IntKind.i64.wrap S=S:=IntWalk.i64_in _ (by omega)
      go_wp2_with fail
      go_region_with (first | (go_at_call 84;refine cS.mono ?_;rintro e w' ⟨rfl,rfl⟩) | (go_at_call 40;refine cP.mono ?_;rintro e w5 ⟨v5,rfl,h5,b5⟩;have H5:=Lib.hid h5;have B5:=Lib.hid b5;clear h5 b5))
      clear hw
      go_wp2_with fail
      go_ret
      refine ⟨_,rfl,?_,HB.out.drew.trans B5.out⟩
      rw [HG.out]
      exact fresh_of_owns H5.out (fun z hz=>(List.mem_append.1 hz).elim (HLL.out z) (leB_bytes _ _ z)) (by decide)
theorem sealOf_bytes {sum:List Int→Int} {zs:List Int} (hz:∀ z ∈ zs,0≤z∧z≤255):∀ z ∈ sealOf sum zs,0≤z∧z≤255:=by
  intro z h
  unfold sealOf at h
  rcases List.mem_append.1 h with h | h
  · rcases List.mem_append.1 (List.mem_of_mem_take h) with h | h
    · exact hz z h
    · rw [List.eq_of_mem_replicate h];decide
  · exact leB_bytes _ _ z h
end Go.Proofs.YtcefmpnijjcekaaGreatDoor
