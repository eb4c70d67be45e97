/- Proved here: what the landed tree's Plan answers. The conditions stand at each theorem. Proved here: how the landed tree reads a node's pages out of the blocks that are there (gather), where all of them are there. The conditions stand at each theorem. Proved here: the numbers of the blocks that a chart's pages lie in (own). The conditions stand at each theorem. Proved here: .. -/
import Derived.Test.YtcefmpnijjcekaaGreatDoorTk14
import Derived.Deep.RegionHeld3
import Derived.Test.YtcefmpnijjcekaaGreatDoorTk13
import Derived.Lib.SliceRun
set_option linter.unusedVariables false
set_option linter.unusedSimpArgs false
namespace Go.Proofs.YtcefmpnijjcekaaGreatDoor
open Go.RowKit
def nodeCs (f a b c d s t:Int):List Value:=[.int .i64 0,.int .i64 f,.int .i64 0,.int .i64 0,.int .i64 a,.int .i64 b,.int .i64 c,.int .i64 d,.int .i64 s,.int .i64 t,.slice none 0 0,.int .i64 0]
def nodeV (f a b c d s t:Int):Value:=.agg (nodeCs f a b c d s t).toArray
theorem uNode:∃ fs,Tryz.prog.underlying 68=some (.struct fs):=⟨_,Tryz.underlying68⟩
theorem iNode (cs:List Value) (h:cs.length=12):(Tryz.prog.info? 68).map (·.size)=some cs.length:=by rw [h];kernel_rfl
theorem iNodeA (f a b c d s t:Int):(Tryz.prog.info? 68).map (·.size)=some (nodeCs f a b c d s t).toArray.size:=by
  have h:=iNode (nodeCs f a b c d s t) rfl
  exact h
theorem node_one (f a b c d s t:Int):∀ v ∈ nodeCs f a b c d s t,v.oneCell'=true:=by
  intro v hv
  unfold nodeCs at hv
  simp only [List.mem_cons,List.mem_nil_iff,or_false] at hv
  rcases hv with rfl | rfl | rfl | rfl | rfl | rfl | rfl | rfl | rfl | rfl | rfl | rfl <;> rfl
theorem results_cell_tt {fn:Func} {p x y:Tmp} {ty:TypeId} (h:fn.results=#[.cell p ty,.tmp x,.tmp y]) (tmps:Array Value) (P:Program) (w:World) {v:Value} {a:Addr} (ha:tmps.getD p undef=.pointer (some a)) (hr:(loadVar ty a).run P w=.ok v w) :
    (results fn tmps).run P w=.ok (.tuple #[v,tmps.getD x undef,tmps.getD y undef]) w:=by
  have ha':tmps[p]?.getD undef=.pointer (some a):=by simpa using ha
  simp only [results,h]
  simp [Sem.run_bind,Result.andThen,ha',asAddr,hr]
theorem run_load_node (w:World) (g:Nat) (f a b c d s t:Int) (h:w.rangeAt g 0 (nodeCs f a b c d s t)):(loadVar 68 ⟨g,0,none⟩).run Tryz.prog w=.ok (nodeV f a b c d s t) w:=by
  obtain ⟨fs,hu⟩:=uNode
  exact run_loadVar_mid w g 0 68 (nodeCs f a b c d s t) _ h hu rfl (iNode _ rfl)
def zeroN:Array Value:=(nodeCs 0 0 0 0 0 0 0).toArray
theorem made_node (w:World):(w.alloc (.cells zeroN 68)).there w.heap.size 0 12∧(w.alloc (.cells zeroN 68)).rangeAt w.heap.size 0 (nodeCs 0 0 0 0 0 0 0):=by
  constructor
  · intro j hj
    refine ⟨?_,by rw [World.frozen?_alloc_mark];simp⟩
    rw [Nat.zero_add,World.cell?_alloc_new]
    unfold zeroN nodeCs
    simp [hj]
  · intro j v hj
    rw [Nat.zero_add,World.cell?_alloc_new]
    unfold zeroN
    simpa using hj
theorem there_laterT {w wx:World} {b o n:Nat} (hb:Below w.heap.size w wx) (h:w.there b o n) (hlt:b < w.heap.size):wx.there b o n:=fun j hj=>by
  obtain ⟨h1,h2⟩:=h j hj
  obtain ⟨u,hu⟩:=Option.isSome_iff_exists.1 h1
  exact ⟨by rw [cell_later hb hu];rfl,by rw [hb.frozen (p:=⟨b,o+j,none⟩) hlt];exact h2⟩
/-! ### Fresh blocks -/
theorem freshErr_eq {zs fs:List Int} {n:Nat} (hn:n≤fs.length):freshErr fs n zs=if decide ((0:Int) ∈ fs.take n)=true then 1 else if apartL (zs ++ fs.take n)=true then 0 else 1:=by
  unfold freshErr
  rw [if_neg (by omega)]
  cases ha:apartL (zs ++ fs.take n) with
  | false=>cases (fs.take n).all dataP <;> cases decide ((0:Int) ∈ fs.take n) <;> rfl
  | true=>
    have key:(fs.take n).all dataP=!decide ((0:Int) ∈ fs.take n):=by
      by_cases h0:(0:Int) ∈ fs.take n
      · rw [decide_eq_true h0,Bool.not_true,← Bool.not_eq_true,List.all_eq_true]
        intro h
        have:=h 0 h0
        unfold dataP at this
        simp at this
      · rw [decide_eq_false h0,Bool.not_false,List.all_eq_true]
        intro x hx
        have h2:=(apart_append ha).2
        unfold apartL at h2
        rw [Bool.and_eq_true,List.all_eq_true] at h2
        have:=h2.1 x hx
        unfold okP at this
        unfold dataP
        simp only [decide_eq_true_eq] at this ⊢
        rcases this with h | h
        · rw [h] at hx;exact absurd hx h0
        · exact h
    rw [key]
    cases decide ((0:Int) ∈ fs.take n) <;> rfl
theorem placeL_at {L fs:List Int} (hL:L.length=159):∀ i k,k < i→i≤5→(placeL L fs i).getD (154+k) 0=if needsB L k=true then fs.getD (usedN L k) 0 else L.getD (154+k) 0
  | i+1,k,hk,hi=>by
    have hpl:=placeL_length L fs i
    have hnew:∀ m,i≤m→∀ j,j≤i→(placeL L fs j).getD (154+m) 0=L.getD (154+m) 0:=by
      intro m hm j
      induction j with
      | zero=>intro _;rfl
      | succ j ih=>
        intro hj
        unfold placeL
        split
        · rw [List.getD_eq_getElem?_getD,List.getElem?_set_ne (by omega),← List.getD_eq_getElem?_getD]
          exact ih (by omega)
        · exact ih (by omega)
    show (if needsB L i=true then (placeL L fs i).set (154+i) (fs.getD (usedN L i) 0) else placeL L fs i).getD (154+k) 0=_
    by_cases hik:k=i
    · subst hik
      by_cases hb:needsB L k=true
      · rw [if_pos hb,if_pos hb,List.getD_eq_getElem?_getD,List.getElem?_set_self (by omega)]
        rfl
      · rw [if_neg hb,if_neg hb]
        exact hnew k (Nat.le_refl _) k (Nat.le_refl _)
    · have ih:=placeL_at (fs:=fs) hL i k (by omega) (by omega)
      rw [← ih]
      split
      · rw [List.getD_eq_getElem?_getD,List.getElem?_set_ne (by omega),← List.getD_eq_getElem?_getD]
      · rfl
def ownP (zs fs:List Int):List Int:=[singleP zs fs,doubleP zs fs,under0 zs fs,under1 zs fs,under2 zs fs]
theorem place_own {zs fs:List Int} {k:Nat} (hk:k < 5):(placeL (splitL zs) (fs.take (needP zs)) 5).getD (154+k) 0=(ownP zs fs).getD k 0:=by
  have h:=placeL_at (fs:=fs.take (needP zs)) (split_length zs) 5 k hk (Nat.le_refl _)
  have hu:needsB (splitL zs) k=true→(fs.take (needP zs)).getD (usedN (splitL zs) k) 0=fs.getD (usedN (splitL zs) k) 0:=fun hb=>by
    refine take_getD' _ _ _ ?_
    have h1:=usedN_succ (splitL zs) k
    have h2:=usedN_mono (splitL zs) (show k+1≤5 by omega)
    rw [usedN_need] at h2
    rw [hb] at h1
    have:(true:Bool).toNat=1:=rfl
    omega
  rw [h,split_zero (Or.inr (by omega))]
  have e:(if needsB (splitL zs) k=true then (fs.take (needP zs)).getD (usedN (splitL zs) k) 0 else 0)=whenB (needsB (splitL zs) k) (fs.getD (usedN (splitL zs) k) 0):=by
    unfold whenB
    split
    · next hb=>exact hu hb
    · rfl
  rw [e]
  obtain ⟨h0,h1,h2,h3,h4⟩:=split_needs zs
  have u0:usedN (splitL zs) 0=0:=rfl
  have u1:=usedN_succ (splitL zs) 0
  have u2:=usedN_succ (splitL zs) 1
  have u3:=usedN_succ (splitL zs) 2
  have u4:=usedN_succ (splitL zs) 3
  rw [h0,u0] at u1
  rw [h1,u1] at u2
  rw [h2,u2] at u3
  rw [h3,u3] at u4
  unfold ownP singleP doubleP under0 under1 under2
  match k,hk with
  | 0,_=>rw [h0,u0];rfl
  | 1,_=>rw [h1,u1,Nat.zero_add];rfl
  | 2,_=>
    rw [h2,u2,Nat.zero_add]
    unfold doubleB underN
    cases someP zs 34 30 <;> cases someP zs 64 30 <;> cases someP zs 94 30 <;> rfl
  | 3,_=>
    rw [h3,u3,Nat.zero_add]
    unfold doubleB underN
    cases someP zs 34 30 <;> cases someP zs 64 30 <;> cases someP zs 94 30 <;> rfl
  | 4,_=>
    rw [h4,u4,Nat.zero_add]
    unfold doubleB underN
    cases someP zs 34 30 <;> cases someP zs 64 30 <;> cases someP zs 94 30 <;> rfl
def planL (zs fs:List Int):List Int:=placedL (splitL zs) (fs.take (needP zs))
theorem planL_length (zs fs:List Int):(planL zs fs).length=159:=by
  unfold planL placedL
  rw [lay_length,placeL_length,split_length]
theorem planL_get (zs fs:List Int) (j:Nat):(planL zs fs).getD j 0=if 34≤j∧j < 37 then (ownP zs fs).getD (j - 32) 0 else (placeL (splitL zs) (fs.take (needP zs)) 5).getD j 0:=by
  unfold planL placedL
  have hl:(placeL (splitL zs) (fs.take (needP zs)) 5).length=159:=by rw [placeL_length,split_length]
  have hc:(((placeL (splitL zs) (fs.take (needP zs)) 5).drop 156).take 3).length=3:=by rw [List.length_take,List.length_drop,hl];decide
  rw [lay_get _ _ _ _ (by omega),hc]
  by_cases h:34≤j∧j < 37
  · rw [if_pos h,if_pos h,take_getD' _ _ _ (by omega),drop_getD',show 156+(j - 34)=154+(j - 32) by omega]
    exact place_own (by omega)
  · rw [if_neg h,if_neg h]
theorem planL_own {zs fs:List Int} {k:Nat} (hk:k < 5):(planL zs fs).getD (154+k) 0=(ownP zs fs).getD k 0:=by
  rw [planL_get,if_neg (by omega)]
  exact place_own hk
theorem planL_low {zs fs:List Int} {j:Nat} (hj:j < 154) (h:¬ (34≤j∧j < 37)):(planL zs fs).getD j 0=(splitL zs).getD j 0:=by
  rw [planL_get,if_neg h,List.getD_eq_getElem?_getD,placeL_low _ _ 5 j hj,← List.getD_eq_getElem?_getD]
theorem planL_page {zs fs:List Int} {i s:Nat} (h:i=0∧s=4∨i=2∧s=34∨i=3∧s=64∨i=4∧s=94):pageL (planL zs fs) i=partP zs s 30:=by
  rw [← split_page h]
  unfold pageL
  rw [part_of (by rw [planL_length];omega),part_of (by rw [split_length];omega)]
  apply List.map_congr_left
  intro k hk
  have hk':=List.mem_range.1 hk
  exact planL_low (by omega) (by omega)
theorem planL_double {zs fs:List Int}:pageL (planL zs fs) 1=[under0 zs fs,under1 zs fs,under2 zs fs] ++ List.replicate 27 0:=by
  unfold pageL
  rw [part_of (by rw [planL_length];omega)]
  apply List.ext_getElem?
  intro k
  by_cases hk:k < 30
  · rw [List.getElem?_map,List.getElem?_range hk]
    show some ((planL zs fs).getD (4+1 * 30+k) 0)=_
    by_cases h3:k < 3
    · rw [planL_get,if_pos (by omega),List.getElem?_append_left (by simpa using h3)]
      match k,h3 with
      | 0,_=>rfl
      | 1,_=>rfl
      | 2,_=>rfl
    · rw [planL_low (by omega) (by omega),split_zero (by omega),List.getElem?_append_right (by simp;omega),List.getElem?_replicate,if_pos (by simp;omega)]
  · rw [List.getElem?_eq_none (by simp;omega),List.getElem?_eq_none (by simp;omega)]
theorem flat_zeros:∀ n:Nat,(List.replicate n (0:Int)).flatMap (fun p=>leB p 2)=List.replicate (2 * n) 0
  | 0=>rfl
  | n+1=>by
    rw [List.replicate_succ,List.flatMap_cons,flat_zeros n,show 2 * (n+1)=2+2 * n by omega,← List.replicate_append_replicate]
    rfl
theorem pageB_zeros {xs:List Int} {n:Nat} (h:xs.length+n≤30):pageB (xs ++ List.replicate n 0)=pageB xs:=by
  have hl:(xs.flatMap fun p=>leB p 2).length=2 * xs.length:=flat_len xs
  have e:((xs ++ List.replicate n 0).flatMap fun p=>leB p 2)=(xs.flatMap fun p=>leB p 2) ++ List.replicate (2 * n) 0:=by rw [List.flatMap_append,flat_zeros]
  have e2:((xs.flatMap fun p=>leB p 2) ++ List.replicate (2 * n) 0) ++ List.replicate (60 - ((xs.flatMap fun p=>leB p 2) ++ List.replicate (2 * n) 0).length) 0=(xs.flatMap fun p=>leB p 2) ++ List.replicate (60 - (xs.flatMap fun p=>leB p 2).length) 0:=by
    rw [List.append_assoc,List.replicate_append_replicate,List.length_append,hl,List.length_replicate,show 2 * n+(60 - (2 * xs.length+2 * n))=60 - 2 * xs.length by omega]
  unfold pageB
  rw [e,seal_short (by rw [List.length_append,hl,List.length_replicate];omega),seal_short (by omega),e2]
theorem plan_blocks {zs fs:List Int} (hz:∀ i,i < needP zs→nzB (fs.getD i 0)=true):blocksL (planL zs fs) 5=writesP zs fs:=by
  rw [blocksL_succ,blocksL_succ,blocksL_succ,blocksL_succ,blocksL_succ]
  have o0:=planL_own (zs:=zs) (fs:=fs) (show 0 < 5 by decide)
  have o1:=planL_own (zs:=zs) (fs:=fs) (show 1 < 5 by decide)
  have o2:=planL_own (zs:=zs) (fs:=fs) (show 2 < 5 by decide)
  have o3:=planL_own (zs:=zs) (fs:=fs) (show 3 < 5 by decide)
  have o4:=planL_own (zs:=zs) (fs:=fs) (show 4 < 5 by decide)
  rw [o0,o1,o2,o3,o4,planL_page (i:=0) (s:=4) (by omega),planL_page (i:=2) (s:=34) (by omega),planL_page (i:=3) (s:=64) (by omega),planL_page (i:=4) (s:=94) (by omega),planL_double,pageB_zeros (by simp)]
  show [] ++ (if singleP zs fs=0 then [] else [(singleP zs fs,_)]) ++ (if doubleP zs fs=0 then [] else [(doubleP zs fs,_)]) ++ (if under0 zs fs=0 then [] else [(under0 zs fs,_)]) ++ (if under1 zs fs=0 then [] else [(under1 zs fs,_)]) ++ (if under2 zs fs=0 then [] else [(under2 zs fs,_)])=_
  unfold writesP
  have W:∀ (b:Bool) (p:Int) (xs:List Int),(b=true→p≠0)→(if whenB b p=0 then [] else [(whenB b p,pageB xs)])=whenW b (whenB b p) xs:=fun b p xs h=>by
    cases b with
    | false=>rfl
    | true=>exact if_neg (h rfl)
  have nz:∀ i,i < needP zs→fs.getD i 0≠0:=fun i hi=>by have:=hz i hi;unfold nzB at this;simpa using this
  have hneed:needP zs=(someP zs 4 30).toNat+(doubleB zs).toNat+(someP zs 34 30).toNat+(someP zs 64 30).toNat+(someP zs 94 30).toNat:=by
    unfold needP doubleB underN
    cases someP zs 4 30 <;> cases someP zs 34 30 <;> cases someP zs 64 30 <;> cases someP zs 94 30 <;> rfl
  have hd:someP zs 34 30=true∨someP zs 64 30=true∨someP zs 94 30=true→(doubleB zs).toNat=1:=by
    unfold doubleB underN
    cases someP zs 34 30 <;> cases someP zs 64 30 <;> cases someP zs 94 30 <;> simp
  have t1:(true:Bool).toNat=1:=rfl
  have e0:=W (someP zs 4 30) (fs.getD 0 0) (partP zs 4 30) (fun h=>nz 0 (by rw [hneed,h];omega))
  have e1:=W (doubleB zs) (fs.getD (someP zs 4 30).toNat 0) [under0 zs fs,under1 zs fs,under2 zs fs] (fun h=>nz _ (by rw [hneed,h];omega))
  have e2:=W (someP zs 34 30) (fs.getD ((someP zs 4 30).toNat+1) 0) (partP zs 34 30) (fun h=>nz _ (by have:=hd (Or.inl h);rw [hneed,h];omega))
  have e3:=W (someP zs 64 30) (fs.getD ((someP zs 4 30).toNat+1+(someP zs 34 30).toNat) 0) (partP zs 64 30) (fun h=>nz _ (by have:=hd (Or.inr (Or.inl h));rw [hneed,h];omega))
  have e4:=W (someP zs 94 30) (fs.getD ((someP zs 4 30).toNat+1+(someP zs 34 30).toNat+(someP zs 64 30).toNat) 0) (partP zs 94 30) (fun h=>nz _ (by have:=hd (Or.inr (Or.inr h));rw [hneed,h];omega))
  unfold singleP doubleP under0 under1 under2 at *
  rw [e0,e1,e2,e3,e4]
  simp only [List.nil_append,List.append_assoc]
end Go.Proofs.YtcefmpnijjcekaaGreatDoor
namespace Go.Proofs.YtcefmpnijjcekaaGreatDoor
open Go.RowKit
theorem lay_zeros {L:List Int} {o n:Nat} (h:(L.drop o).take n=List.replicate n 0) (hl:o+n≤L.length):lay L o (List.replicate n 0)=L:=by
  rw [← h,lay_eq _ _ _ (by rw [List.length_take];omega),List.length_take,List.length_drop,show min n (L.length - o)=n by omega,List.append_assoc,← List.drop_drop,List.take_append_drop,List.take_append_drop]
theorem ints_ne {L:List Int} (h:L.length=159):ints L≠[]:=by
  intro e
  have:=congrArg List.length e
  rw [ints_length,h] at this
  simp at this
theorem getD_cell {base g j:Nat} {w0 w:World} {L:List Int} (hO:OwnV base w0 g (ints L) w) (hj:j < L.length):w.cell? ⟨g,j,none⟩=some (.int .i64 (L.getD j 0)):=
  hO.1 j _ (ints_get (by rw [List.getD_eq_getElem?_getD,List.getElem?_eq_getElem hj];rfl))
theorem fetch_any {w0 w:World} {g i:Nat} {L:List Int} {ao:Option Addr} {m cap:Nat} {ws:List (Int × List Int)} {pg:List Int} (hO:OwnV w0.heap.size w0 g (ints L) w) (hL:L.length=159) (hW:WIs w0 ao m ws) (hi:i < 5) (hp:pageAt ws (L.getD (154+i) 0)=some pg) (hz:pageL L i=List.replicate 30 0) :
    Calls Tryz.prog 211 #[.pointer (some ⟨g,0,none⟩),.int .i64 (i:Int),.slice ao m cap] w fun e w'=>e=.returned (.bool true)∧OwnV w0.heap.size w0 g (ints (lay L (4+i * 30) pg)) w':=by
  unfold pageAt at hp
  by_cases h0:L.getD (154+i) 0=0
  · rw [if_pos h0] at hp
    cases hp
    have hc:=getD_cell hO (j:=154+i) (by omega)
    rw [h0] at hc
    rw [lay_zeros hz (by omega)]
    exact (fetch0_any hc hi).mono (fun e w' h=>⟨h.1,hO.later h.2 (ints_ne hL)⟩)
  · rw [if_neg h0] at hp
    cases hf:findW ws (L.getD (154+i) 0) with
    | none=>rw [hf] at hp;cases hp
    | some zs=>
      rw [hf] at hp
      exact fetchP_any hO hL hW hi rfl h0 hf hp
theorem made_ints (w:World) (L:List Int) (T:TypeId):OwnV w.heap.size w w.heap.size (ints L) (w.alloc (.cells (ints L).toArray T)):=by
  refine ⟨fun j x hj=>?_,fun j=>by rw [World.frozen?_alloc_mark];simp,Nat.le_refl _,(Below.refl _ _).alloc (Nat.le_refl _) _⟩
  rw [World.cell?_alloc_new]
  simpa using hj
/-! ### The chart,step by step -/
def gat0 (d:List Int) (s t:Int):List Int:=((d ++ List.replicate 155 0).set 154 s).set 155 t
theorem getD_set' {L:List Int} {i j:Nat} {x:Int} (hi:i < L.length):(L.set i x).getD j 0=if i=j then x else L.getD j 0:=by
  rw [List.getD_eq_getElem?_getD,List.getElem?_set]
  by_cases e:i=j
  · rw [if_pos e,if_pos e,if_pos hi];rfl
  · rw [if_neg e,if_neg e,List.getD_eq_getElem?_getD]
theorem gat0_get {d:List Int} (hd:d.length=4) (s t:Int) (j:Nat):(gat0 d s t).getD j 0=if j < 4 then d.getD j 0 else if j=154 then s else if j=155 then t else 0:=by
  unfold gat0
  have hl:(d ++ List.replicate 155 (0:Int)).length=159:=by rw [List.length_append,hd,List.length_replicate]
  rw [getD_set' (by rw [List.length_set];omega),getD_set' (by omega)]
  by_cases h1:j < 4
  · rw [if_neg (by omega),if_neg (by omega),if_pos h1,List.getD_eq_getElem?_getD,List.getElem?_append_left (by omega),← List.getD_eq_getElem?_getD]
  · rw [if_neg h1]
    by_cases h2:j=154
    · rw [if_neg (by omega),if_pos (by omega),if_pos h2]
    · by_cases h3:j=155
      · rw [if_pos (by omega),if_neg h2,if_pos h3]
      · rw [if_neg (by omega),if_neg (by omega),if_neg h2,if_neg h3,List.getD_eq_getElem?_getD,List.getElem?_append_right (by omega),List.getElem?_replicate]
        split <;> rfl
theorem gat0_length {d:List Int} (hd:d.length=4) (s t:Int):(gat0 d s t).length=159:=by
  unfold gat0
  rw [List.length_set,List.length_set,List.length_append,hd,List.length_replicate]
theorem lay_got {L cs:List Int} {o n:Nat} (hc:cs.length=n) (hf:o+n≤L.length) (j:Nat):(lay L o cs).getD j 0=if o≤j∧j < o+n then cs.getD (j - o) 0 else L.getD j 0:=by
  rw [lay_get _ _ _ _ (by omega),hc]
theorem page_zero {L:List Int} {i:Nat} (hL:L.length=159) (hi:i < 5) (h:∀ j,4+i * 30≤j→j < 34+i * 30→L.getD j 0=0):pageL L i=List.replicate 30 0:=by
  unfold pageL
  rw [part_of (by omega),List.eq_replicate_iff]
  refine ⟨by simp,fun x hx=>?_⟩
  obtain ⟨k,hk,rfl⟩:=List.mem_map.1 hx
  have:=List.mem_range.1 hk
  exact h _ (by omega) (by omega)
theorem part_is {L cs:List Int} {o n:Nat} (hc:cs.length=n) (hL:o+n≤L.length) (h:∀ k,k < n→L.getD (o+k) 0=cs.getD k 0):(L.drop o).take n=cs:=by
  rw [part_of hL]
  apply List.ext_getElem?
  intro k
  by_cases hk:k < n
  · rw [List.getElem?_map,List.getElem?_range hk,List.getElem?_eq_getElem (show k < cs.length by omega)]
    show some (L.getD (o+k) 0)=_
    rw [h k hk,List.getD_eq_getElem?_getD,List.getElem?_eq_getElem (show k < cs.length by omega)]
    rfl
  · rw [List.getElem?_eq_none (by simp;omega),List.getElem?_eq_none (by omega)]
structure Full (M d sg u0 u1 u2 o:List Int):Prop where
  len:M.length=159
  dir:M.take 4=d
  p0:pageL M 0=sg
  p2:pageL M 2=u0
  p3:pageL M 3=u1
  p4:pageL M 4=u2
  own:(M.drop 154).take 5=o
  i64:∀ z ∈ M,I64 z
theorem pageAt_ok {ws:List (Int × List Int)} {q:Int} {pg:List Int} (h:pageAt ws q=some pg):pg.length=30∧∀ z ∈ pg,0≤z∧z≤479:=by
  unfold pageAt at h
  by_cases h0:q=0
  · rw [if_pos h0] at h
    cases h
    exact ⟨by simp,fun z hz=>by rw [List.eq_of_mem_replicate hz];decide⟩
  · rw [if_neg h0] at h
    cases hf:findW ws q with
    | none=>rw [hf] at h;cases h
    | some zs=>
      rw [hf] at h
      obtain ⟨_,_,p3,_,p5⟩:=page_parts h
      refine ⟨by rw [← p3];exact words_length _,fun z hz=>?_⟩
      unfold apartL at p5
      rw [Bool.and_eq_true,List.all_eq_true] at p5
      have:=p5.1 z hz
      unfold okP at this
      simp only [decide_eq_true_eq] at this
      omega
theorem mem_lay {L cs:List Int} {o:Nat} (hf:o+cs.length≤L.length) {z:Int} (hz:z ∈ lay L o cs):z ∈ L∨z ∈ cs:=by
  rw [lay_eq _ _ _ hf] at hz
  rcases List.mem_append.1 hz with h | h
  · rcases List.mem_append.1 h with h | h
    · exact Or.inl (List.mem_of_mem_take h)
    · exact Or.inr h
  · exact Or.inl (List.mem_of_mem_drop h)
structure Way (L0 L1 L2 L3 L4 L5 L6 d sg db u0 u1 u2:List Int) (s t:Int):Prop where
  e0:L0=gat0 d s t
  e1:L1=lay L0 4 sg
  e2:L2=lay L1 34 db
  e3:L3=lay L2 156 (db.take 3)
  e4:L4=lay L3 64 u0
  e5:L5=lay L4 94 u1
  e6:L6=lay L5 124 u2
  hd:d.length=4
  hs:sg.length=30
  hb:db.length=30
  h0:u0.length=30
  h1:u1.length=30
  h2:u2.length=30
section
variable {L0 L1 L2 L3 L4 L5 L6 d sg db u0 u1 u2:List Int} {s t:Int}
theorem Way.lens (w:Way L0 L1 L2 L3 L4 L5 L6 d sg db u0 u1 u2 s t):L0.length=159∧L1.length=159∧L2.length=159∧L3.length=159∧L4.length=159∧L5.length=159∧L6.length=159:=by
  have h0:L0.length=159:=by rw [w.e0];exact gat0_length w.hd s t
  have h1:L1.length=159:=by rw [w.e1,lay_length,h0]
  have h2:L2.length=159:=by rw [w.e2,lay_length,h1]
  have h3:L3.length=159:=by rw [w.e3,lay_length,h2]
  have h4:L4.length=159:=by rw [w.e4,lay_length,h3]
  have h5:L5.length=159:=by rw [w.e5,lay_length,h4]
  exact ⟨h0,h1,h2,h3,h4,h5,by rw [w.e6,lay_length,h5]⟩
theorem Way.gets (w:Way L0 L1 L2 L3 L4 L5 L6 d sg db u0 u1 u2 s t) (j:Nat) :
    (L0.getD j 0=if j < 4 then d.getD j 0 else if j=154 then s else if j=155 then t else 0)∧(L1.getD j 0=if 4≤j∧j < 34 then sg.getD (j - 4) 0 else L0.getD j 0)∧(L2.getD j 0=if 34≤j∧j < 64 then db.getD (j - 34) 0 else L1.getD j 0)∧
    (L3.getD j 0=if 156≤j∧j < 159 then (db.take 3).getD (j - 156) 0 else L2.getD j 0)∧(L4.getD j 0=if 64≤j∧j < 94 then u0.getD (j - 64) 0 else L3.getD j 0)∧(L5.getD j 0=if 94≤j∧j < 124 then u1.getD (j - 94) 0 else L4.getD j 0)∧(L6.getD j 0=if 124≤j∧j < 154 then u2.getD (j - 124) 0 else L5.getD j 0):=by
  obtain ⟨l0,l1,l2,l3,l4,l5,l6⟩:=w.lens
  have hb3:(db.take 3).length=3:=by rw [List.length_take,w.hb];decide
  refine ⟨by rw [w.e0];exact gat0_get w.hd s t j,by rw [w.e1];exact lay_got w.hs (by omega) j,by rw [w.e2];exact lay_got w.hb (by omega) j,by rw [w.e3];exact lay_got hb3 (by omega) j,by rw [w.e4];exact lay_got w.h0 (by omega) j,by rw [w.e5];exact lay_got w.h1 (by omega) j,by rw [w.e6];exact lay_got w.h2 (by omega) j⟩
theorem Way.full (w:Way L0 L1 L2 L3 L4 L5 L6 d sg db u0 u1 u2 s t) {q0 q1 q2:Int} (hq:db.take 3=[q0,q1,q2]) (hi:(∀ z ∈ d,I64 z)∧I64 s∧I64 t∧(∀ z ∈ sg,I64 z)∧(∀ z ∈ db,I64 z)∧(∀ z ∈ u0,I64 z)∧(∀ z ∈ u1,I64 z)∧∀ z ∈ u2,I64 z):Full L6 d sg u0 u1 u2 [s,t,q0,q1,q2]:=by
  obtain ⟨l0,l1,l2,l3,l4,l5,l6⟩:=w.lens
  have hb3:(db.take 3).length=3:=by rw [hq];rfl
  refine ⟨l6,?_,?_,?_,?_,?_,?_,?_⟩
  · have:=part_is (L:=L6) (cs:=d) (o:=0) (n:=4) w.hd (by omega) (fun k hk=>by
      obtain ⟨g0,g1,g2,g3,g4,g5,g6⟩:=w.gets (0+k)
      rw [g6,if_neg (by omega),g5,if_neg (by omega),g4,if_neg (by omega),g3,if_neg (by omega),g2,if_neg (by omega),g1,if_neg (by omega),g0,if_pos (by omega),Nat.zero_add])
    rwa [List.drop_zero] at this
  · exact part_is w.hs (by omega) (fun k hk=>by
      obtain ⟨g0,g1,g2,g3,g4,g5,g6⟩:=w.gets (4+0 * 30+k)
      rw [g6,if_neg (by omega),g5,if_neg (by omega),g4,if_neg (by omega),g3,if_neg (by omega),g2,if_neg (by omega),g1,if_pos (by omega)]
      exact congrArg (fun k=>sg.getD k 0) (by omega))
  · exact part_is w.h0 (by omega) (fun k hk=>by
      obtain ⟨g0,g1,g2,g3,g4,g5,g6⟩:=w.gets (4+2 * 30+k)
      rw [g6,if_neg (by omega),g5,if_neg (by omega),g4,if_pos (by omega)]
      exact congrArg (fun k=>u0.getD k 0) (by omega))
  · exact part_is w.h1 (by omega) (fun k hk=>by
      obtain ⟨g0,g1,g2,g3,g4,g5,g6⟩:=w.gets (4+3 * 30+k)
      rw [g6,if_neg (by omega),g5,if_pos (by omega)]
      exact congrArg (fun k=>u1.getD k 0) (by omega))
  · exact part_is w.h2 (by omega) (fun k hk=>by
      obtain ⟨g0,g1,g2,g3,g4,g5,g6⟩:=w.gets (4+4 * 30+k)
      rw [g6,if_pos (by omega)]
      exact congrArg (fun k=>u2.getD k 0) (by omega))
  · refine part_is rfl (by omega) (fun k hk=>?_)
    obtain ⟨g0,g1,g2,g3,g4,g5,g6⟩:=w.gets (154+k)
    rw [g6,if_neg (by omega),g5,if_neg (by omega),g4,if_neg (by omega)]
    match k,hk with
    | 0,_=>rw [g3,if_neg (by omega),g2,if_neg (by omega),g1,if_neg (by omega),g0];rfl
    | 1,_=>rw [g3,if_neg (by omega),g2,if_neg (by omega),g1,if_neg (by omega),g0];rfl
    | 2,_=>rw [g3,if_pos (by omega),hq];rfl
    | 3,_=>rw [g3,if_pos (by omega),hq];rfl
    | 4,_=>rw [g3,if_pos (by omega),hq];rfl
  · obtain ⟨hdI,hsI,htI,hsg,hdb,hu0,hu1,hu2⟩:=hi
    have hz:I64 0:=⟨by decide,by decide⟩
    have i0:∀ z ∈ L0,I64 z:=fun z hz'=>by
      rw [w.e0] at hz'
      unfold gat0 at hz'
      rcases List.mem_or_eq_of_mem_set hz' with h | h
      · rcases List.mem_or_eq_of_mem_set h with h | h
        · rcases List.mem_append.1 h with h | h
          · exact hdI z h
          · rw [List.eq_of_mem_replicate h];exact hz
        · rw [h];exact hsI
      · rw [h];exact htI
    have i1:∀ z ∈ L1,I64 z:=fun z h=>by rw [w.e1] at h;exact (mem_lay (by rw [w.hs];omega) h).elim (i0 z) (hsg z)
    have i2:∀ z ∈ L2,I64 z:=fun z h=>by rw [w.e2] at h;exact (mem_lay (by rw [w.hb];omega) h).elim (i1 z) (hdb z)
    have i3:∀ z ∈ L3,I64 z:=fun z h=>by rw [w.e3] at h;exact (mem_lay (by omega) h).elim (i2 z) (fun h=>hdb z (List.mem_of_mem_take h))
    have i4:∀ z ∈ L4,I64 z:=fun z h=>by rw [w.e4] at h;exact (mem_lay (by rw [w.h0];omega) h).elim (i3 z) (hu0 z)
    have i5:∀ z ∈ L5,I64 z:=fun z h=>by rw [w.e5] at h;exact (mem_lay (by rw [w.h1];omega) h).elim (i4 z) (hu1 z)
    exact fun z h=>by rw [w.e6] at h;exact (mem_lay (by rw [w.h2];omega) h).elim (i5 z) (hu2 z)
theorem Way.finds (w:Way L0 L1 L2 L3 L4 L5 L6 d sg db u0 u1 u2 s t) {q0 q1 q2:Int} (hq:db.take 3=[q0,q1,q2]) :
    (L0.getD (154+0) 0=s∧pageL L0 0=List.replicate 30 0)∧(L1.getD (154+1) 0=t∧pageL L1 1=List.replicate 30 0)∧(L3.getD (154+2) 0=q0∧pageL L3 2=List.replicate 30 0)∧(L4.getD (154+3) 0=q1∧pageL L4 3=List.replicate 30 0)∧(L5.getD (154+4) 0=q2∧pageL L5 4=List.replicate 30 0)∧pageL L2 1=db:=by
  obtain ⟨l0,l1,l2,l3,l4,l5,l6⟩:=w.lens
  refine ⟨⟨?_,?_⟩,⟨?_,?_⟩,⟨?_,?_⟩,⟨?_,?_⟩,⟨?_,?_⟩,?_⟩
  · obtain ⟨g0,g1,g2,g3,g4,g5,g6⟩:=w.gets (154+0)
    rw [g0];rfl
  · exact page_zero l0 (by decide) (fun j h1 h2=>by rw [(w.gets j).1,if_neg (by omega),if_neg (by omega),if_neg (by omega)])
  · obtain ⟨g0,g1,g2,g3,g4,g5,g6⟩:=w.gets (154+1)
    rw [g1,if_neg (by omega),g0];rfl
  · exact page_zero l1 (by decide) (fun j h1 h2=>by
      obtain ⟨g0,g1,g2,g3,g4,g5,g6⟩:=w.gets j
      rw [g1,if_neg (by omega),g0,if_neg (by omega),if_neg (by omega),if_neg (by omega)])
  · obtain ⟨g0,g1,g2,g3,g4,g5,g6⟩:=w.gets (154+2)
    rw [g3,if_pos (by omega),hq];rfl
  · exact page_zero l3 (by decide) (fun j h1 h2=>by
      obtain ⟨g0,g1,g2,g3,g4,g5,g6⟩:=w.gets j
      rw [g3,if_neg (by omega),g2,if_neg (by omega),g1,if_neg (by omega),g0,if_neg (by omega),if_neg (by omega),if_neg (by omega)])
  · obtain ⟨g0,g1,g2,g3,g4,g5,g6⟩:=w.gets (154+3)
    rw [g4,if_neg (by omega),g3,if_pos (by omega),hq];rfl
  · exact page_zero l4 (by decide) (fun j h1 h2=>by
      obtain ⟨g0,g1,g2,g3,g4,g5,g6⟩:=w.gets j
      rw [g4,if_neg (by omega),g3,if_neg (by omega),g2,if_neg (by omega),g1,if_neg (by omega),g0,if_neg (by omega),if_neg (by omega),if_neg (by omega)])
  · obtain ⟨g0,g1,g2,g3,g4,g5,g6⟩:=w.gets (154+4)
    rw [g5,if_neg (by omega),g4,if_neg (by omega),g3,if_pos (by omega),hq];rfl
  · exact page_zero l5 (by decide) (fun j h1 h2=>by
      obtain ⟨g0,g1,g2,g3,g4,g5,g6⟩:=w.gets j
      rw [g5,if_neg (by omega),g4,if_neg (by omega),g3,if_neg (by omega),g2,if_neg (by omega),g1,if_neg (by omega),g0,if_neg (by omega),if_neg (by omega),if_neg (by omega)])
  · exact part_is w.hb (by omega) (fun k hk=>by
      obtain ⟨g0,g1,g2,g3,g4,g5,g6⟩:=w.gets (4+1 * 30+k)
      rw [g2,if_pos (by omega)]
      exact congrArg (fun k=>db.getD k 0) (by omega))
end
def nodeGs (k l z e:Int) (xo:Option Addr) (xm xc:Nat) (f a b c d s t:Int):List Value:=[.int .i64 k,.int .i64 f,.int .i64 l,.int .i64 z,.int .i64 a,.int .i64 b,.int .i64 c,.int .i64 d,.int .i64 s,.int .i64 t,.slice xo xm xc,.int .i64 e]
def nodeG (k l z e:Int) (xo:Option Addr) (xm xc:Nat) (f a b c d s t:Int):Value:=.agg (nodeGs k l z e xo xm xc f a b c d s t).toArray
set_option maxRecDepth 100000 in
set_option maxHeartbeats 6400000 in
theorem gather_any {nk nl nz ne:Int} {no:Option Addr} {nm nc:Nat} {w:World} {ao:Option Addr} {m cap:Nat} {ws:List (Int × List Int)} {x0 x1 x2 x3 s t q0 q1 q2:Int} {sg u0 u1 u2:List Int} (hW:WIs w ao m ws)
    (h1:pageAt ws s=some sg) (h2:pageAt ws t=some ([q0,q1,q2] ++ List.replicate 27 0)) (h3:pageAt ws q0=some u0) (h4:pageAt ws q1=some u1) (h5:pageAt ws q2=some u2) (hI:(∀ z ∈ [x0,x1,x2,x3],I64 z)∧I64 s∧I64 t) :
    Calls Tryz.prog 171 #[nodeG nk nl nz ne no nm nc 1 x0 x1 x2 x3 s t,.slice ao m cap] w fun e w'=>∃ g M,e=.returned (.tuple #[.pointer (some ⟨g,0,none⟩),.bool true])∧OwnV w.heap.size w g (ints M) w'∧Full M [x0,x1,x2,x3] sg u0 u1 u2 [s,t,q0,q1,q2]:=by
  unfold nodeG nodeGs
  go_enter Tryz.func171,Tryz.ntmps171
  go_wp2_with fail
  obtain ⟨W2,hW2⟩:∃ W2,W2=((w.alloc (.cells (nodeGs nk nl nz ne no nm nc 1 x0 x1 x2 x3 s t).toArray 68)).alloc (.cells (ints ([x0,x1,x2,x3] ++ List.replicate 155 0)).toArray 232)):=⟨_,rfl⟩
  have HB2:Hid (Below w.heap.size w W2):=Lib.hid (by rw [hW2];exact ((Below.refl _ _).alloc (Nat.le_refl _) _).alloc (by simp) _)
  have HO2:Hid (OwnV w.heap.size w (w.heap.size+1) (ints ([x0,x1,x2,x3] ++ List.replicate 155 0)) W2):=Lib.hid (by
    rw [hW2]
    have h:=made_ints (w.alloc (.cells (nodeGs nk nl nz ne no nm nc 1 x0 x1 x2 x3 s t).toArray 68)) ([x0,x1,x2,x3] ++ List.replicate 155 0) 232
    rw [World.size_alloc] at h
    exact ⟨h.1,h.2.1,Nat.le_succ _,((Below.refl _ _).alloc (Nat.le_refl _) _).alloc (by simp) _⟩)
  have HN2:Hid (W2.rangeAt w.heap.size 0 (nodeGs nk nl nz ne no nm nc 1 x0 x1 x2 x3 s t)):=Lib.hid (by
    rw [hW2]
    intro j v hj
    rw [Nat.zero_add]
    refine cell_later ((Below.refl _ _).alloc (Nat.le_refl _) _) ?_
    rw [World.cell?_alloc_new]
    simpa using hj)
  have c8:W2.cell? ⟨w.heap.size,8,none⟩=some (.int .i64 s):=by have:=HN2.out 8 _ rfl;simpa using this
  have c9:W2.cell? ⟨w.heap.size,9,none⟩=some (.int .i64 t):=by have:=HN2.out 9 _ rfl;simpa using this
  have ca:=getD_cell HO2.out (j:=154) (by simp)
  have cb:=getD_cell HO2.out (j:=155) (by simp)
  have fa:=HO2.out.2.1 154
  have fb:=HO2.out.2.1 155
  change Code.wp _ _ _ _ ((w.alloc (.cells (nodeGs nk nl nz ne no nm nc 1 x0 x1 x2 x3 s t).toArray 68)).alloc (.cells (ints ([x0,x1,x2,x3] ++ List.replicate 155 0)).toArray 232))
  rw [← hW2]
  clear hW2
  go_region
  obtain ⟨W3,hW3⟩:∃ W3,W3=((W2.setCell ⟨w.heap.size+1,154,none⟩ (.int .i64 s)).setCell ⟨w.heap.size+1,155,none⟩ (.int .i64 t)).drew:=⟨_,rfl⟩
  have HO3:Hid (OwnV w.heap.size w (w.heap.size+1) (ints (gat0 [x0,x1,x2,x3] s t)) W3):=Lib.hid (by
    rw [hW3]
    unfold gat0
    rw [ints_set,ints_set]
    exact ((HO2.out.store (by simp [ints])).store (by simp [ints])).drew)
  rw [← hW3]
  clear hW3 c8 c9 ca cb fa fb
  obtain ⟨db,hdb⟩:∃ db,[q0,q1,q2] ++ List.replicate 27 0=db:=⟨_,rfl⟩
  have hq3:db.take 3=[q0,q1,q2]:=by rw [← hdb];rfl
  have htl:(trimL db).length≤3:=by
    rw [← hdb,trim_append_zeros]
    obtain ⟨n,hn⟩:=trim_prefix [q0,q1,q2]
    have:=congrArg List.length hn
    rw [List.length_append,List.length_replicate] at this
    have h3:([q0,q1,q2]:List Int).length=3:=rfl
    omega
  rw [hdb] at h2
  clear hdb
  obtain ⟨ks,is⟩:=pageAt_ok h1
  obtain ⟨kb,ib⟩:=pageAt_ok h2
  obtain ⟨k0,i0⟩:=pageAt_ok h3
  obtain ⟨k1,i1⟩:=pageAt_ok h4
  obtain ⟨k2,i2⟩:=pageAt_ok h5
  have sm:∀ z:Int,0≤z∧z≤479→I64 z:=fun z h=>⟨by omega,by omega⟩
  obtain ⟨L0,e0⟩:∃ L0,L0=gat0 [x0,x1,x2,x3] s t:=⟨_,rfl⟩
  obtain ⟨L1,e1⟩:∃ L1,L1=lay L0 4 sg:=⟨_,rfl⟩
  obtain ⟨L2,e2⟩:∃ L2,L2=lay L1 34 db:=⟨_,rfl⟩
  obtain ⟨L3,e3⟩:∃ L3,L3=lay L2 156 (db.take 3):=⟨_,rfl⟩
  obtain ⟨L4,e4⟩:∃ L4,L4=lay L3 64 u0:=⟨_,rfl⟩
  obtain ⟨L5,e5⟩:∃ L5,L5=lay L4 94 u1:=⟨_,rfl⟩
  obtain ⟨L6,e6⟩:∃ L6,L6=lay L5 124 u2:=⟨_,rfl⟩
  have way:Way L0 L1 L2 L3 L4 L5 L6 [x0,x1,x2,x3] sg db u0 u1 u2 s t:=⟨e0,e1,e2,e3,e4,e5,e6,rfl,ks,kb,k0,k1,k2⟩
  have HFULL:=Lib.hid (way.full hq3 ⟨hI.1,hI.2.1,hI.2.2,fun z h=>sm z (is z h),fun z h=>sm z (ib z h),fun z h=>sm z (i0 z h),fun z h=>sm z (i1 z h),fun z h=>sm z (i2 z h)⟩)
  obtain ⟨l0,l1,l2,l3,l4,l5,l6⟩:=way.lens
  obtain ⟨⟨a0,z0⟩,⟨a1,z1⟩,⟨a2,z2⟩,⟨a3,z3⟩,⟨a4,z4⟩,pdb⟩:=way.finds hq3
  obtain ⟨g,hg⟩:∃ g,w.heap.size+1=g:=⟨_,rfl⟩
  rw [← e0] at HO3
  rw [hg] at HO3 ⊢
  have HF0:Hid (∀ W,OwnV w.heap.size w g (ints L0) W→Calls Tryz.prog 211 #[.pointer (some ⟨g,0,none⟩),.int .i64 0,.slice ao m cap] W fun e w'=>e=.returned (.bool true)∧OwnV w.heap.size w g (ints L1) w'):=Lib.hid (fun W hW'=>by
    have h:=fetch_any (cap:=cap) (i:=0) hW' l0 hW (by decide) (by rw [a0];exact h1) z0
    rw [e1];exact h)
  have HF1:Hid (∀ W,OwnV w.heap.size w g (ints L1) W→Calls Tryz.prog 211 #[.pointer (some ⟨g,0,none⟩),.int .i64 1,.slice ao m cap] W fun e w'=>e=.returned (.bool true)∧OwnV w.heap.size w g (ints L2) w'):=Lib.hid (fun W hW'=>by
    have h:=fetch_any (cap:=cap) (i:=1) hW' l1 hW (by decide) (by rw [a1];exact h2) z1
    rw [e2];exact h)
  have HF2:Hid (∀ W,OwnV w.heap.size w g (ints L3) W→Calls Tryz.prog 211 #[.pointer (some ⟨g,0,none⟩),.int .i64 2,.slice ao m cap] W fun e w'=>e=.returned (.bool true)∧OwnV w.heap.size w g (ints L4) w'):=Lib.hid (fun W hW'=>by
    have h:=fetch_any (cap:=cap) (i:=2) hW' l3 hW (by decide) (by rw [a2];exact h3) z2
    rw [e4];exact h)
  have HF3:Hid (∀ W,OwnV w.heap.size w g (ints L4) W→Calls Tryz.prog 211 #[.pointer (some ⟨g,0,none⟩),.int .i64 3,.slice ao m cap] W fun e w'=>e=.returned (.bool true)∧OwnV w.heap.size w g (ints L5) w'):=Lib.hid (fun W hW'=>by
    have h:=fetch_any (cap:=cap) (i:=3) hW' l4 hW (by decide) (by rw [a3];exact h4) z3
    rw [e5];exact h)
  have HF4:Hid (∀ W,OwnV w.heap.size w g (ints L5) W→Calls Tryz.prog 211 #[.pointer (some ⟨g,0,none⟩),.int .i64 4,.slice ao m cap] W fun e w'=>e=.returned (.bool true)∧OwnV w.heap.size w g (ints L6) w'):=Lib.hid (fun W hW'=>by
    have h:=fetch_any (cap:=cap) (i:=4) hW' l5 hW (by decide) (by rw [a4];exact h5) z4
    rw [e6];exact h)
  have HDI:Hid (∀ W,OwnV w.heap.size w g (ints L2) W→IArg W (some ⟨g,34,none⟩) (30:Nat) (30:Nat) db):=Lib.hid (fun W hW'=>by
    have h:=(chart_of_own hW' l2).page 1
    rw [pdb] at h
    have h2:=iarg_of_range (cap:=30) h (fun z hz=>sm z (ib z hz)) (by omega) (by omega)
    rw [kb] at h2
    exact h2)
  have HL2:=Lib.hid l2
  have HE3:Hid (lay L2 156 (db.take 3)=L3):=Lib.hid e3.symm
  have t3:¬ (3:Int) < ((trimL db).length:Int):=by omega
  have HTR:Hid (∀ W,OwnV w.heap.size w g (ints L2) W→Calls Tryz.prog 172 #[.slice (some ⟨g,34,none⟩) (30:Nat) (30:Nat)] W fun e w'=>e=.returned (.slice (some ⟨g,34,none⟩) (trimL db).length (30:Nat))∧W=w'):=Lib.hid (fun W hW'=>trimmed_any _ 30 30 db W (HDI.out W hW'))
  generalize (trimL db).length=n at *
  clear way e0 e1 e2 e3 e4 e5 e6 l0 l1 l2 l3 l4 l5 l6 a0 a1 a2 a3 a4 z0 z1 z2 z3 z4 pdb ks kb k0 k1 k2 is ib i0 i1 i2 h1 h2 h3 h4 h5 hW hI sm htl hq3 HO2 HN2 HB2
  go_wp2_with (first
    | (go_at_call 211;have gt:=HO4;clear gt;refine (HF1.out _ HO4.out).mono ?_;rintro e W5 ⟨rfl,ho⟩;have HO5:=Lib.hid ho;clear ho)
    | (go_at_call 211;refine (HF0.out _ HO3.out).mono ?_;rintro e W4 ⟨rfl,ho⟩;have HO4:=Lib.hid ho;clear ho)
    | (go_at_call 172;refine (HTR.out _ HO5.out).mono ?_;rintro e w6 ⟨rfl,rfl⟩))
  have HCC:=Lib.hid (own_copy_ints (off:=156) (len:=3) (cap:=3) HO5.out.drew (by rw [HL2.out];decide) _ _ _ _ ((HDI.out _ HO5.out).drew) 3)
  rw [HE3.out] at HCC
  refine wp_region_still_tail 9 (by kernel_rfl) (by kernel_rfl) ?_
  simp only [List.take_succ_cons,List.take_zero,List.drop_succ_cons,List.drop_zero]
  try rw [drew_of_r]
  iterate 9 still_step
  refine wpStill_nil ?_
  go_wp2_with (refine wp_copy rfl (.tmp 45) (.tmp 50) 31 31 rfl _ _ rfl rfl _ HCC.out ?_;rintro v7 W7 ⟨rfl,hO7,hK7⟩;have HO7:=Lib.hid hO7;clear hO7 hK7)
  go_loopw [7] (fun iv wr=>∃ i:Int,iv=.int .i64 i∧(2≤i∧i≤5)∧Hid ((i=2→OwnV w.heap.size w g (ints L3) wr)∧(i=3→OwnV w.heap.size w g (ints L4) wr)∧(i=4→OwnV w.heap.size w g (ints L5) wr)∧(i=5→OwnV w.heap.size w g (ints L6) wr))) (fun iv _=>5 - (intOf iv).toNat)
  case atStart=>exact ⟨2,rfl,by decide,Lib.hid ⟨fun _=>HO7.out,fun h=>absurd h (by decide),fun h=>absurd h (by decide),fun h=>absurd h (by decide)⟩⟩
  case round=>
    obtain ⟨i,rfl,hi,HR⟩:=hrel
    by_cases hlt:i < 5
    · obtain rfl | rfl | rfl:i=2∨i=3∨i=4:=by omega
      · have cF:=HF2.out _ (HR.out.1 rfl)
        go_wp2_with (go_at_call 211;refine cF.mono ?_;rintro e w8 ⟨rfl,ho⟩;have HO8:=Lib.hid ho;clear ho)
        go_roundw
        case rel=>exact ⟨3,by go_num,by decide,Lib.hid ⟨fun h=>absurd h (by decide),fun _=>HO8.out,fun h=>absurd h (by decide),fun h=>absurd h (by decide)⟩⟩
        case measure=>simp [intOf]
      · have cF:=HF3.out _ (HR.out.2.1 rfl)
        go_wp2_with (go_at_call 211;refine cF.mono ?_;rintro e w8 ⟨rfl,ho⟩;have HO8:=Lib.hid ho;clear ho)
        go_roundw
        case rel=>exact ⟨4,by go_num,by decide,Lib.hid ⟨fun h=>absurd h (by decide),fun h=>absurd h (by decide),fun _=>HO8.out,fun h=>absurd h (by decide)⟩⟩
        case measure=>simp [intOf]
      · have cF:=HF4.out _ (HR.out.2.2.1 rfl)
        go_wp2_with (go_at_call 211;refine cF.mono ?_;rintro e w8 ⟨rfl,ho⟩;have HO8:=Lib.hid ho;clear ho)
        go_roundw
        case rel=>exact ⟨5,by go_num,by decide,Lib.hid ⟨fun h=>absurd h (by decide),fun h=>absurd h (by decide),fun h=>absurd h (by decide),fun _=>HO8.out⟩⟩
        case measure=>simp [intOf]
    · obtain rfl:i=5:=by omega
      have HO9:Hid (OwnV w.heap.size w g (ints L6) wr):=Lib.hid (HR.out.2.2.2 rfl)
      go_wp2_with fail
      go_ret2
      first | exact ⟨g,L6,rfl,HO9.out,HFULL.out⟩ | exact ⟨g,rfl,L6,HO9.out,HFULL.out⟩ | exact ⟨L6,g,rfl,HO9.out,HFULL.out⟩
end Go.Proofs.YtcefmpnijjcekaaGreatDoor
namespace Go.Proofs.YtcefmpnijjcekaaGreatDoor
open Go.RowKit
theorem own1_any (x:Int) (w:World):Calls Tryz.prog 212 #[.int .i64 x] w fun e w'=>e=.returned (.bool (decide (x=0)))∧w=w':=by
  have e1:(x == 0)=decide (x=0):=by
    by_cases h:x=0
    · rw [decide_eq_true h];simpa using h
    · rw [decide_eq_false h];simpa using h
  go_enter Tryz.func212,Tryz.ntmps212
  go_wp2_with fail
  go_ret
  exact ⟨by rw [← e1];rfl,rfl⟩
theorem nz_take {zs:List Int} {j:Nat} {x:Int} (h:zs[j]?=some x):nzL (zs.take (j+1))=nzL (zs.take j) ++ (if x=0 then [] else [x]):=by
  rw [List.take_add_one,h,nz_append]
  unfold nzL nzB
  by_cases hx:x=0
  · simp [hx]
  · simp [hx]
theorem nz_le (l:List Int):(nzL l).length≤l.length:=List.length_filter_le ..
set_option maxRecDepth 100000 in
set_option maxHeartbeats 1600000 in
theorem index0_any {b n cap:Nat} {zs:List Int} {w:World} (hn:zs.length=n) (hc:w.rangeAt b 0 (ints zs)) (hb:n≤1000) :
    Calls Tryz.prog 120 #[.slice (some ⟨b,0,none⟩) n cap,.func (.func 212) #[] #[]] w fun e w'=>(∃ r:Int,e=.returned (.int .i64 r)∧((r=-1∧(0:Int) ∉ zs)∨∃ k:Nat,r=(k:Int)∧k < n∧zs[k]?=some 0∧(0:Int) ∉ zs.take k))∧w=w':=by
  have HC:=Lib.hid hc
  have HN:=Lib.hid hn
  clear hc hn
  go_enter Tryz.func120,Tryz.ntmps120
  go_wp2_with fail
  go_loopw [8] (fun iv wr=>∃ i:Nat,iv=.int .i64 (i:Int)∧i≤n∧Hid (w=wr)∧Hid ((0:Int) ∉ zs.take i)) (fun iv _=>n - (intOf iv).toNat)
  case atStart=>exact ⟨0,rfl,Nat.zero_le _,Lib.hid rfl,Lib.hid (by simp)⟩
  case round=>
    obtain ⟨i,rfl,hi,HW,HQ⟩:=hrel
    by_cases hlt:i < n
    · obtain ⟨x,hx⟩:∃ x,zs[i]?=some x:=⟨_,List.getElem?_eq_getElem (by rw [HN.out];exact hlt)⟩
      have d1:wr.cell? ⟨b,i,none⟩=some (.int .i64 x):=by
        have:=HC.out i _ (ints_get hx)
        rw [Nat.zero_add] at this
        rw [← HW.out];exact this
      have i1:(i:Int) < (n:Int):=by omega
      have cF:=own1_any x wr
      have HX:=Lib.hid hx
      clear hx
      by_cases hz:x=0
      · subst hz
        rw [decide_eq_true rfl] at cF
        go_wp2_with (go_at_call 212;refine cF.mono ?_;rintro e w3 ⟨rfl,rfl⟩)
        go_ret
        exact ⟨⟨(i:Int),rfl,Or.inr ⟨i,rfl,hlt,HX.out,HQ.out⟩⟩,HW.out⟩
      · have HQ2:Hid ((0:Int) ∉ zs.take (i+1)):=Lib.hid (by
          rw [List.take_add_one,HX.out]
          intro h
          rcases List.mem_append.1 h with h | h
          · exact HQ.out h
          · exact hz (by simp at h;exact h.symm))
        rw [decide_eq_false hz] at cF
        clear hz
        go_wp2_with (go_at_call 212;refine cF.mono ?_;rintro e w3 ⟨rfl,rfl⟩)
        go_roundw
        case rel=>exact ⟨i+1,by go_num,by omega,HW,HQ2⟩
        case measure=>simp [intOf];omega
    · obtain rfl:i=n:=by omega
      have HQ2:Hid ((0:Int) ∉ zs):=Lib.hid (by have:=HQ.out;rwa [← HN.out,List.take_length] at this)
      go_wp2_with fail
      go_ret
      exact ⟨⟨-1,rfl,Or.inl ⟨rfl,HQ2.out⟩⟩,HW.out⟩
theorem wp_clear_run {ops:Array Oper} {rest:List Oper} {o:Oper} {a:Act} {Q:Exit→Act→World→Prop} {w:World} (hgd:o.guard=none) (x:Operand) (t:TypeId)
    (ho:o.op=.call { callee:=.builtin .clear,args:=#[x],argTypes:=#[t] }) (v v':Value) (w':World) (hx:a.eval x=v) (hr:∀ ty,(Builtin.clear_ #[t] ty #[v]).run Tryz.prog w=.ok v' w')
    (h:wpList Tryz.prog ops Q rest (a.put o.dst v') w'):wpList Tryz.prog ops Q (o::rest) a w:=by
  refine wpList_plain hgd fun K hK=>?_
  unfold Oper.wp
  simp [execOp,ho,resolve,invoke,builtin,hx,hr,Result.andThen]
  exact hK _ _ h
def Striking (base:Nat) (w0:World) (b:Nat) (zs:List Int) (i j:Nat) (wr:World):Prop:=
  ∃ C:List Int,OwnV base w0 b (ints C) wr∧C.length=zs.length∧C.take i=nzL (zs.take j)∧C.drop j=zs.drop j
theorem nz_none {l:List Int} (h:(0:Int) ∉ l):nzL l=l:=by
  unfold nzL
  rw [List.filter_eq_self]
  intro x hx
  unfold nzB
  exact decide_eq_true (fun e=>h (e ▸ hx))
theorem Striking.keep {base b i j:Nat} {w0 wr:World} {zs:List Int} {x:Int} (h:Striking base w0 b zs i j wr) (hj:zs[j]?=some x) (hx:x≠0) (hij:i < j):Striking base w0 b zs (i+1) (j+1) (wr.setCell ⟨b,i,none⟩ (.int .i64 x)):=by
  obtain ⟨C,h1,h2,h3,h4⟩:=h
  have hjl:=(List.getElem?_eq_some_iff.1 hj).1
  have hs:=h1.store (k:=i) (y:=.int .i64 x) (by rw [ints_length];omega)
  rw [← ints_set] at hs
  refine ⟨C.set i x,hs,by rw [List.length_set,h2],?_,?_⟩
  · rw [nz_take hj,if_neg hx,← h3,List.take_add_one,List.getElem?_set_self (by omega),List.take_set_of_le (Nat.le_refl _)]
    rfl
  · rw [List.drop_set_of_lt (by omega),← List.drop_drop,h4,List.drop_drop]
theorem Striking.skip {base b i j:Nat} {w0 wr:World} {zs:List Int} (h:Striking base w0 b zs i j wr) (hj:zs[j]?=some 0):Striking base w0 b zs i (j+1) wr:=by
  obtain ⟨C,h1,h2,h3,h4⟩:=h
  refine ⟨C,h1,h2,by rw [nz_take hj,if_pos rfl,List.append_nil];exact h3,by rw [← List.drop_drop,h4,List.drop_drop]⟩
theorem Striking.at {base b i j:Nat} {w0 wr:World} {zs:List Int} {x:Int} (h:Striking base w0 b zs i j wr) (hj:zs[j]?=some x):wr.cell? ⟨b,j,none⟩=some (.int .i64 x):=by
  obtain ⟨C,h1,h2,h3,h4⟩:=h
  have e:C[j]?=some x:=by
    have e1:(C.drop j)[0]?=C[j]?:=by rw [List.getElem?_drop,Nat.add_zero]
    have e2:(zs.drop j)[0]?=zs[j]?:=by rw [List.getElem?_drop,Nat.add_zero]
    rw [← e1,h4,e2,hj]
  exact h1.1 j _ (ints_get e)
theorem Striking.cell {base b i j k:Nat} {w0 wr:World} {zs:List Int} (h:Striking base w0 b zs i j wr) (hk:k < zs.length):∃ y,wr.cell? ⟨b,k,none⟩=some (.int .i64 y)∧wr.frozen? ⟨b,k,none⟩=false:=by
  obtain ⟨C,h1,h2,_,_⟩:=h
  exact ⟨_,h1.1 k _ (ints_get (List.getElem?_eq_getElem (by omega))),h1.2.1 k⟩
theorem first_zero {zs:List Int} (h:(0:Int) ∈ zs):∃ k,k < zs.length∧zs[k]?=some 0∧(0:Int) ∉ zs.take k:=by
  induction zs with
  | nil=>cases h
  | cons x r ih=>
    by_cases hx:x=0
    · exact ⟨0,by simp,by rw [hx];rfl,by simp⟩
    · obtain ⟨k,h1,h2,h3⟩:=ih ((List.mem_cons.1 h).resolve_left (fun e=>hx e.symm))
      refine ⟨k+1,by simpa using h1,h2,?_⟩
      rw [List.take_succ_cons]
      intro hm
      rcases List.mem_cons.1 hm with e | e
      · exact hx e.symm
      · exact h3 e
theorem zero_at {zs:List Int} {i k:Nat} (hi:zs[i]?=some 0) (h:(0:Int) ∉ zs.take k):k≤i:=by
  rcases Nat.lt_or_ge i k with hlt | hge
  · exact absurd (List.mem_of_getElem? (i:=i) (by rw [List.getElem?_take,if_pos hlt];exact hi)) h
  · exact hge
theorem nzL_i64 {l:List Int} (h:∀ z ∈ l,I64 z):∀ z ∈ nzL l,I64 z:=fun z hz=>h z (List.mem_filter.1 hz).1
theorem Striking.done {base b i:Nat} {w0 wr:World} {zs:List Int} {m cap:Nat} (h:Striking base w0 b zs i zs.length wr) (hm:i+m=zs.length) (hi:i=(nzL zs).length) (hc:zs.length≤cap) (hz:∀ z ∈ zs,I64 z) (hb:zs.length≤1000) (hk:Keeps b wr (wr.setCells b i (List.replicate m (.int .i64 0)))) :
    FreshI (wr.setCells b i (List.replicate m (.int .i64 0))) base (.slice (some ⟨b,0,none⟩) i cap) (nzL zs)∧Below base w0 (wr.setCells b i (List.replicate m (.int .i64 0))):=by
  obtain ⟨C,h1,h2,h3,h4⟩:=h
  rw [List.take_length] at h3
  have e:List.replicate m (Value.int .i64 0)=ints (List.replicate m 0):=by unfold ints;simp
  have h5:=h1.fillI (List.replicate m 0) C i wr (by rw [List.length_replicate];omega)
  rw [e]
  have hr:=own_part h5 0 i
  have e2:((lay C i (List.replicate m 0)).drop 0).take i=nzL zs:=by
    rw [List.drop_zero,lay_eq _ _ _ (by rw [List.length_replicate];omega),List.append_assoc,List.take_append_of_le_length (by rw [List.length_take];omega),List.take_take,Nat.min_self,h3]
  rw [e2] at hr
  have hA:=iarg_of_range (cap:=cap) hr (nzL_i64 hz) (by have:=nz_le zs;omega) (by omega)
  refine ⟨⟨some ⟨b,0,none⟩,cap,by rw [← hi],by rw [← hi] at hA ⊢;exact hA,Or.inr ⟨b,0,rfl,h1.2.2.1⟩⟩,h5.2.2.2⟩
set_option maxRecDepth 100000 in
set_option maxHeartbeats 6400000 in
theorem delete0_any {base b n cap:Nat} {zs:List Int} {w0 w:World} (hn:zs.length=n) (hO:OwnV base w0 b (ints zs) w) (hz:∀ z ∈ zs,I64 z) (hb:n≤1000) (hc:n≤cap) :
    Calls Tryz.prog 104 #[.slice (some ⟨b,0,none⟩) n cap,.func (.func 212) #[] #[]] w fun e w'=>∃ v,e=.returned v∧FreshI w' base v (nzL zs)∧Below base w0 w':=by
  have cI:=index0_any (cap:=cap) hn (own_range hO) hb
  have HO:=Lib.hid hO
  have HZ:=Lib.hid hz
  have HN:=Lib.hid hn
  by_cases h0:(0:Int) ∈ zs
  · obtain ⟨k,k1,k2,k3⟩:=first_zero h0
    have cI2:Calls Tryz.prog 120 #[.slice (some ⟨b,0,none⟩) n cap,.func (.func 212) #[] #[]] w fun e w'=>e=.returned (.int .i64 (k:Int))∧w=w':=cI.mono (fun e w' h=>by
      obtain ⟨⟨r,he,hr⟩,hw⟩:=h
      refine ⟨?_,hw⟩
      rw [he]
      rcases hr with ⟨_,hr⟩ | ⟨k',rfl,_,q2,q3⟩
      · exact absurd h0 hr
      · have h1:=zero_at k2 q3
        have h2:=zero_at q2 k3
        rw [show k'=k by omega])
    have HS0:Hid (Striking base w0 b zs k (k+1) w):=Lib.hid ⟨zs,hO,rfl,by rw [nz_take k2,if_pos rfl,List.append_nil,nz_none k3],rfl⟩
    have HE0:Hid (k=(nzL (zs.take (k+1))).length):=Lib.hid (by rw [nz_take k2,if_pos rfl,List.append_nil,nz_none k3,List.length_take];omega)
    have hkn:k+1≤n:=by omega
    have kw:wrap64 ((k:Int)+1)=((k+1:Nat):Int):=by unfold wrap64;omega
    have kne:((k:Int) == -1)=false:=by simp
    clear cI hO hz h0 k1 k2 k3 hn
    go_enter Tryz.func104,Tryz.ntmps104
    go_wp2_with (go_at_call 120;refine cI2.mono ?_;rintro e w2 ⟨rfl,rfl⟩)
    go_loopw [5,6] (fun iv jv wr=>∃ i j:Nat,iv=.int .i64 (i:Int)∧jv=.int .i64 (j:Int)∧(i < j∧j≤n)∧Hid (i=(nzL (zs.take j)).length)∧Hid (Striking base w0 b zs i j wr)) (fun _ jv _=>n - (intOf jv).toNat)
    case atStart=>exact ⟨k,k+1,rfl,by first | rfl | go_num,⟨Nat.lt_succ_self _,hkn⟩,HE0,HS0⟩
    case round=>
      obtain ⟨i,j,rfl,rfl,⟨hij,hjn⟩,HE,HS⟩:=hrel
      by_cases hlt:j < n
      · obtain ⟨x,hx⟩:∃ x,zs[j]?=some x:=⟨_,List.getElem?_eq_getElem (by rw [HN.out];exact hlt)⟩
        have d1:=HS.out.at hx
        obtain ⟨y,d2,d3⟩:=HS.out.cell (k:=i) (by rw [HN.out];omega)
        have j1:(j:Int) < (n:Int):=by omega
        have i1:(i:Int) < (n:Int):=by omega
        have i2:i < n:=by omega
        have cF:=own1_any x wr
        have HX:=Lib.hid hx
        have HT:=Lib.hid (nz_take hx)
        clear hx
        by_cases hz0:x=0
        · subst hz0
          rw [decide_eq_true rfl] at cF
          have HE2:Hid (i=(nzL (zs.take (j+1))).length):=Lib.hid (by rw [HT.out,if_pos rfl,List.append_nil];exact HE.out)
          go_wp2_with (go_at_call 212;refine cF.mono ?_;rintro e w3 ⟨rfl,rfl⟩)
          go_roundw
          case rel=>exact ⟨i,j+1,rfl,by go_num,⟨by omega,by omega⟩,HE2,Lib.hid (HS.out.skip HX.out)⟩
          case measure=>simp [intOf];omega
        · rw [decide_eq_false hz0] at cF
          have HE2:Hid (i+1=(nzL (zs.take (j+1))).length):=Lib.hid (by rw [HT.out,if_neg hz0,List.length_append,← HE.out];rfl)
          have HNZ:=Lib.hid hz0
          clear hz0
          go_wp2_with (go_at_call 212;refine cF.mono ?_;rintro e w3 ⟨rfl,rfl⟩)
          go_roundw
          case rel=>exact ⟨i+1,j+1,by go_num,by go_num,⟨by omega,by omega⟩,HE2,Lib.hid (HS.out.keep HX.out HNZ.out hij)⟩
          case measure=>simp [intOf];omega
      · obtain rfl:j=n:=by omega
        have hS:=HS.out
        have hE:=HE.out
        have hN:=HN.out
        rw [← hN,List.take_length] at hE
        rw [← hN] at hS
        obtain ⟨m,hm⟩:∃ m,j - i=m:=⟨_,rfl⟩
        obtain ⟨z0,zc⟩:(∀ w,(zeroValue 3).run Tryz.prog w=.ok (.int .i64 0) w)∧(Value.int .i64 0).cells=#[Value.int .i64 0]:=⟨fun w=>by kernel_rfl,rfl⟩
        have HCL:Hid (∀ ty,(Builtin.clear_ #[31] ty #[.slice (some ⟨b,i,none⟩) m (cap - i)]).run Tryz.prog wr=.ok (.tuple #[]) (wr.setCells b i (List.replicate m (.int .i64 0)))):=Lib.hid (fun ty=>Lib.run_clear_slice wr 31 3 ty (.int .i64 0) Tryz.underlying31 z0 zc rfl b i m (cap - i) (by omega) (fun t ht=>by
          obtain ⟨y,d2,d3⟩:=hS.cell (k:=i+t) (by omega)
          rw [d2];rfl) (fun t ht=>by
          obtain ⟨y,d2,d3⟩:=hS.cell (k:=i+t) (by omega)
          exact d3))
        have HD:=Lib.hid (hS.done (m:=m) (cap:=cap) (by omega) hE (by omega) HZ.out (by omega) (Keeps.sets _ _ _ _))
        have ci:¬ cap=i:=by omega
        have i1:(i:Int)≤(j:Int):=by omega
        have i2:(i:Int)≤(cap:Int):=by omega
        have i3:i≤j:=by omega
        have i4:i≤cap:=by omega
        clear hS hE hN z0 zc
        go_wp2_with (refine wp_clear_run rfl (.tmp 38) 31 rfl _ _ _ (by rw [← hm];rfl) HCL.out ?_)
        go_ret
        exact ⟨_,rfl,HD.out.1,HD.out.2⟩
  · have cI2:Calls Tryz.prog 120 #[.slice (some ⟨b,0,none⟩) n cap,.func (.func 212) #[] #[]] w fun e w'=>e=.returned (.int .i64 (-1))∧w=w':=cI.mono (fun e w' h=>by
      obtain ⟨⟨r,he,hr⟩,hw⟩:=h
      refine ⟨?_,hw⟩
      rw [he]
      rcases hr with ⟨rfl,_⟩ | ⟨k',_,_,q2,_⟩
      · rfl
      · exact absurd (List.mem_of_getElem? q2) h0)
    have HE:Hid (nzL zs=zs):=Lib.hid (nz_none h0)
    have HF:Hid (FreshI w base (.slice (some ⟨b,0,none⟩) n cap) zs):=Lib.hid (by
      have hA:=iarg_of_range (cap:=cap) (own_range hO) hz (by omega) (by omega)
      rw [hn] at hA
      exact ⟨_,cap,by rw [hn],by rw [hn];exact hA,Or.inr ⟨b,0,rfl,hO.2.2.1⟩⟩)
    clear cI hO hz h0 hn
    go_enter Tryz.func104,Tryz.ntmps104
    go_wp2_with (go_at_call 120;refine cI2.mono ?_;rintro e w2 ⟨rfl,rfl⟩)
    go_ret
    exact ⟨_,rfl,by rw [HE.out];exact HF.out,HO.out.2.2.2⟩
/-! ### The copy -/
set_option maxHeartbeats 800000 in
theorem cloneI_any (ad:Addr) (len cap:Nat) (zs:List Int) (w:World) (hA:IArg w (some ad) len cap zs) (hl:len≤1000) :
    Calls Tryz.prog 105 #[.slice (some ad) len cap] w fun e w'=>∃ v,e=.returned v∧w'.ownsRow w.heap.size 3 1 v len (ints zs)∧Below w.heap.size w w':=by
  have HN:=Lib.hid (hA.later ((Below.refl _ _).alloc (Nat.le_refl _) (.cells #[] 3))).news
  have HL:=Lib.hid hA.len
  have HO:Hid ((w.alloc (.cells #[] 3)).ownsRow w.heap.size 3 1 (.slice (some ⟨w.heap.size,0,none⟩) 0 0) 0 []):=Lib.hid (World.ownsRow_made (base:=w.heap.size) (e:=3) (size:=1) w #[] 0 (Nat.le_refl _) (by decide) rfl)
  have HB:Hid (Below w.heap.size w (w.alloc (.cells #[] 3))):=Lib.hid ((Below.refl _ _).alloc (Nat.le_refl _) _)
  have hnil:=fun (w:World)=>Lib.run_eql_slice_nil (P:=Tryz.prog) w 31 3 (some ad) len cap 0 0 Tryz.underlying31
  clear hA
  go_enter Tryz.func105,Tryz.ntmps105
  go_wp2_with (refine wp_append_r elemIR rfl (.tmp 5) (.tmp 6) rfl w.heap.size 0 _ [] rfl HO.out ad len cap (ints zs) (by rw [ints_length,HL.out,Nat.mul_one]) rfl HN.out (ints_one zs) (by omega) (by simp) ?_;intro v1 w1 hown1 hg1 hb1;have HO1:=Lib.hid hown1;have HB1:=Lib.hid (HB.out.trans hb1);clear hown1 hg1 hb1)
  go_ret
  exact ⟨v1,rfl,by have:=HO1.out;rwa [Nat.zero_add,List.nil_append] at this,HB1.out⟩
theorem own_of_row {w0 w:World} {base n:Nat} {v:Value} {zs:List Int} (h:w.ownsRow base 3 1 v n (ints zs)) (hn:0 < n) (hb:Below base w0 w):∃ g cap,v=.slice (some ⟨g,0,none⟩) n cap∧n≤cap∧OwnV base w0 g (ints zs) w:=by
  obtain ⟨g,cap,hv,hg,_⟩:=h.form hn
  have hcap:n≤cap:=by
    rcases h.2 with ⟨h1,h'⟩ | ⟨g',cap',cur,h1,_,_,hc,_⟩
    · omega
    · rw [hv] at h1
      simp only [Value.slice.injEq,Option.some.injEq,Addr.mk.injEq,and_true,true_and] at h1
      omega
  rw [hv] at h
  refine ⟨g,cap,hv,hcap,fun j x hj=>?_,fun j=>h.frozenAt j,hg,hb⟩
  have:=h.cells (g:=g) rfl j x hj
  rw [Go.WideShapes.add_plain] at this
  simpa using this
set_option maxRecDepth 100000 in
set_option maxHeartbeats 1600000 in
theorem ownC_any (g:Nat) (L:List Int) (w:World) (hC:ChartAt w g L) (hz:∀ z ∈ L,I64 z):Calls Tryz.prog 174 #[.pointer (some ⟨g,0,none⟩)] w fun e w'=>∃ v,e=.returned v∧FreshI w' w.heap.size v (nzL ((L.drop 154).take 5))∧Below w.heap.size w w':=by
  have hl:((L.drop 154).take 5).length=5:=by rw [List.length_take,List.length_drop,hC.1];decide
  have hzz:∀ z ∈ (L.drop 154).take 5,I64 z:=fun z h=>hz z (List.mem_of_mem_drop (List.mem_of_mem_take h))
  have hA:=iarg_of_range (cap:=5) (range_part hC.2 154 5) hzz (by omega) (by omega)
  rw [hl] at hA
  generalize (L.drop 154).take 5=A at *
  have cC:=cloneI_any ⟨g,154,none⟩ 5 5 A w hA (by decide)
  have HL:=Lib.hid hl
  have HZ:=Lib.hid hzz
  clear hC hz hA hl hzz
  go_enter Tryz.func174,Tryz.ntmps174
  go_wp2_with (first
    | (go_at_call 105;refine cC.mono ?_;rintro e w2 ⟨v,rfl,ho,hb⟩;obtain ⟨b,cb,rfl,hcb,hO⟩:=own_of_row ho (by decide) hb;have HO:=Lib.hid hO;have HCB:=Lib.hid hcb;clear ho hb hcb hO)
    | (go_at_call 104;refine (delete0_any HL.out HO.out HZ.out (by decide) HCB.out).mono ?_;rintro e w3 ⟨v,rfl,hf,hb⟩;have HF:=Lib.hid hf;have HB:=Lib.hid hb;clear hf hb))
  go_ret
  exact ⟨_,rfl,HF.out,HB.out⟩
end Go.Proofs.YtcefmpnijjcekaaGreatDoor
namespace Go.Proofs.YtcefmpnijjcekaaGreatDoor
open Go.RowKit
theorem node_end {fn:Func} (h:fn.results=#[.cell 4 68,.tmp 5,.tmp 6]) (tmps:Array Value) (g:Nat) (w w1:World) (f a b c d s t:Int) (v u:Value) (hp:tmps.getD 4 undef=.pointer (some ⟨g,0,none⟩)) (hv:tmps.getD 5 undef=v) (hu:tmps.getD 6 undef=u)
    (ht:w.there g 0 12) (hw:w1=w.setCells g 0 (nodeCs f a b c d s t)):(results fn tmps).run Tryz.prog w1=.ok (.tuple #[nodeV f a b c d s t,v,u]) w1:=by
  subst hw
  rw [results_cell_tt h _ _ _ hp (run_load_node _ g f a b c d s t (World.rangeAt_setCells_same _ _ _ _ ht)),hv,hu]
theorem lists_two {w:World} {ao bo:Option Addr} {len cap n c:Nat} {zs fs:List Int} (h:IArg w ao len cap zs) (k:IArg w bo n c fs) (T:TypeId):ListsIn (w.alloc (.cells #[.slice ao len cap,.slice bo n c] T)) w.heap.size 0 [zs,fs]:=by
  intro j ys hj
  have hb:Below w.heap.size w (w.alloc (.cells #[.slice ao len cap,.slice bo n c] T)):=(Below.refl _ _).alloc (Nat.le_refl _) _
  match j,hj with
  | 0,hj=>
    cases hj
    exact ⟨ao,len,cap,by rw [World.cell?_alloc_new];rfl,h.later hb⟩
  | 1,hj=>
    cases hj
    exact ⟨bo,n,c,by rw [World.cell?_alloc_new];rfl,k.later hb⟩
  | j+2,hj=>simp at hj
theorem IArg.takeAny {w:World} {ao:Option Addr} {len cap k:Nat} {zs:List Int} (h:IArg w ao len cap zs) (hk:k≤len):IArg w ao k cap (zs.take k):=by
  cases ao with
  | none=>
    obtain ⟨rfl,rfl⟩:=h.2.2.1 rfl
    obtain rfl:k=0:=by omega
    exact IArg.nil w
  | some x=>
    by_cases h0:k=0
    · subst h0
      exact ⟨⟨rfl,by decide,Or.inl rfl⟩,by simp,(fun e=>by cases e),Nat.zero_le _⟩
    · obtain ⟨b,off,he,_⟩:=h.1.2.2.resolve_left (by omega)
      simp only [Option.some.injEq] at he
      subst he
      exact h.take hk
structure PlanKit (w:World) (ao bo:Option Addr) (len cap n c:Nat) (zs fs:List Int):Prop where
  a:IArg w ao len cap zs
  f:IArg w bo n c fs
  ok:ptrsOk zs=true
theorem PlanKit.need {w W:World} {ao bo:Option Addr} {len cap n c:Nat} {zs fs:List Int} (h:PlanKit w ao bo len cap n c zs fs) (hW:Below w.heap.size w W) :
    Calls Tryz.prog 103 #[.slice ao len cap] W fun e w'=>e=.returned (.tuple #[.int .i64 (needP zs:Int),.int .i64 0])∧Below W.heap.size W w':=by
  have h2:=Need_any ao len cap zs W (h.a.later hW)
  have e1:needOut zs=(needP zs:Int):=by unfold needOut;rw [h.ok];rfl
  have e2:needErr zs=0:=by unfold needErr;rw [h.ok];rfl
  rw [e1,e2] at h2
  exact h2
end Go.Proofs.YtcefmpnijjcekaaGreatDoor
namespace Go.Proofs.YtcefmpnijjcekaaGreatDoor
open Go.RowKit
theorem full_join {M d sg u0 u1 u2 o:List Int} (h:Full M d sg u0 u1 u2 o):joinL M=d ++ (sg ++ (u0 ++ (u1 ++ u2))):=by
  have e:joinL M=M.take 4 ++ (pageL M 0 ++ (pageL M 2 ++ (pageL M 3 ++ (pageL M 4 ++ [])))):=rfl
  rw [e,h.dir,h.p0,h.p2,h.p3,h.p4,List.append_nil]
theorem trimmed_arg {w:World} {ja:Option Addr} {jc:Nat} {J ps:List Int} (h:IArg w ja J.length jc J) (e:trimL J=ps):IArg w ja ps.length jc ps:=by
  have hl:ps.length≤J.length:=by
    rw [← e]
    obtain ⟨n,hn⟩:=trim_prefix J
    have:=congrArg List.length hn
    rw [List.length_append] at this
    omega
  have h2:=h.takeAny hl
  have e2:J.take ps.length=ps:=by rw [← e];exact trim_take
  rwa [e2] at h2
set_option maxRecDepth 100000 in
set_option maxHeartbeats 6400000 in
theorem Read_any {nk nl nz ne:Int} {no:Option Addr} {nm nc:Nat} {w:World} {ao:Option Addr} {m cap:Nat} {ws:List (Int × List Int)} {x0 x1 x2 x3 s t q0 q1 q2:Int} {sg u0 u1 u2 ps os:List Int} (hW:WIs w ao m ws)
    (h1:pageAt ws s=some sg) (h2:pageAt ws t=some ([q0,q1,q2] ++ List.replicate 27 0)) (h3:pageAt ws q0=some u0) (h4:pageAt ws q1=some u1) (h5:pageAt ws q2=some u2) (hI:(∀ z ∈ [x0,x1,x2,x3],I64 z)∧I64 s∧I64 t)
    (hp:trimL ([x0,x1,x2,x3] ++ (sg ++ (u0 ++ (u1 ++ u2))))=ps) (ho:nzL [s,t,q0,q1,q2]=os) (h96:ps.length≤96) (ha:apartL (ps ++ os)=true) :
    Calls Tryz.prog 115 #[nodeG nk nl nz ne no nm nc 1 x0 x1 x2 x3 s t,.slice ao m cap] w fun e w'=>∃ v u,e=.returned (.tuple #[v,u,.int .i64 0])∧FreshI w' w.heap.size v ps∧FreshI w' w.heap.size u os∧Below w.heap.size w w':=by
  have HG:Hid (∀ W,Below w.heap.size w W→Calls Tryz.prog 171 #[nodeG nk nl nz ne no nm nc 1 x0 x1 x2 x3 s t,.slice ao m cap] W fun e w'=>∃ g M,e=.returned (.tuple #[.pointer (some ⟨g,0,none⟩),.bool true])∧OwnV W.heap.size W g (ints M) w'∧Full M [x0,x1,x2,x3] sg u0 u1 u2 [s,t,q0,q1,q2]):=Lib.hid (fun W hB=>gather_any (cap:=cap) (hW.later hB) h1 h2 h3 h4 h5 hI)
  have HF:Hid (∀ M,Full M [x0,x1,x2,x3] sg u0 u1 u2 [s,t,q0,q1,q2]→trimL (joinL M)=ps∧nzL ((M.drop 154).take 5)=os):=Lib.hid (fun M hM=>⟨by rw [full_join hM];exact hp,by rw [hM.own];exact ho⟩)
  have hol:os.length≤5:=by rw [← ho];exact nz_le _
  have h961:¬ (96:Int) < (ps.length:Int):=by omega
  have HP96:=Lib.hid h96
  have HOL:=Lib.hid hol
  have HA:=Lib.hid ha
  have HB0:Hid (∀ o,Below w.heap.size w (w.alloc o)):=Lib.hid (fun o=>(Below.refl _ _).alloc (Nat.le_refl _) _)
  have HAP:Hid (∀ (W:World) ja jc ua uc,IArg W ja ps.length jc ps→IArg W ua os.length uc os→Calls Tryz.prog 159 #[.slice (some ⟨W.heap.size,0,none⟩) (2:Nat) (2:Nat)] (W.alloc (.cells #[.slice ja ps.length jc,.slice ua os.length uc] 31)) fun e w'=>e=.returned (.bool true)∧Below (W.alloc (.cells #[.slice ja ps.length jc,.slice ua os.length uc] 31)).heap.size (W.alloc (.cells #[.slice ja ps.length jc,.slice ua os.length uc] 31)) w'):=Lib.hid (fun W ja jc ua uc a1 a2=>by
    have h:=apart_any W.heap.size 0 2 2 [ps,os] _ rfl (lists_two a1 a2 31) (by
      show ps.length+(os.length+0)≤10000
      omega) (by decide)
    rw [show [ps,os].flatten=ps ++ os from by simp,ha] at h
    exact h)
  clear hW h1 h2 h3 h4 h5 hI hp ho ha h96 hol
  unfold nodeG nodeGs at *
  go_enter Tryz.func115,Tryz.ntmps115
  go_wp2_with (first
    | (go_at_call 171;refine (HG.out _ (HB0.out _)).mono ?_;rintro e w2 ⟨g,M,rfl,hO,hM⟩;have HM:=Lib.hid hM;have HC2:=Lib.hid (chart_of_own hO hM.len);have HB2:=Lib.hid ((HB0.out (.cells (nodeGs nk nl nz ne no nm nc 1 x0 x1 x2 x3 s t).toArray 68)).trans (hO.2.2.2.mono (by simp)));clear hO hM)
    | (go_at_call 173;refine (joined_any g M _ HC2.out HM.out.i64).mono ?_;rintro e w3 ⟨v3,rfl,hf,hb⟩;have HJ3:=Lib.hid hf;have HB3:=Lib.hid hb;have HB03:=Lib.hid (HB2.out.trans (hb.mono HB2.out.size));obtain ⟨ja,jc,rfl,hja,jf⟩:=hf;have HJA:=Lib.hid hja;have HJF:=Lib.hid jf;clear hja jf hb)
    | (go_at_call 172;refine (trimmed_any ja _ jc (joinL M) _ HJA.out).mono ?_;rintro e w4 ⟨rfl,rfl⟩;rw [(HF.out M HM.out).1])
    | (go_at_call 174;refine (ownC_any g M _ (HC2.out.later HB3.out) HM.out.i64).mono ?_;rintro e w5 ⟨v5,rfl,hf,hb⟩;rw [(HF.out M HM.out).2] at hf;have HU5:=Lib.hid hf;obtain ⟨ua,uc,rfl,hua,-⟩:=hf;have HUA:=Lib.hid hua;have HPA:=Lib.hid ((trimmed_arg HJA.out (HF.out M HM.out).1).later hb);clear hua;have HB5:=Lib.hid hb;have HB05:=Lib.hid (HB03.out.trans (hb.mono HB03.out.size));clear hb)
    | (go_at_call 159;refine (HAP.out _ _ _ _ _ HPA.out HUA.out).mono ?_;rintro e w6 ⟨rfl,hb⟩;have HB6:=Lib.hid hb;clear hb))
  have HB56:=Lib.hid (((Below.refl w5.heap.size w5).alloc (Nat.le_refl _) (.cells #[.slice ja ps.length jc,.slice ua os.length uc] 31)).trans (HB6.out.mono (by simp)))
  have HEND:Hid (FreshI w6 w.heap.size (.slice ja ps.length jc) ps∧FreshI w6 w.heap.size (.slice ua os.length uc) os∧Below w.heap.size w w6):=Lib.hid (by
    refine ⟨⟨ja,jc,rfl,HPA.out.later HB56.out,?_⟩,(HU5.out.later HB56.out).mono (by have:=HB03.out.size;omega),HB05.out.trans (HB56.out.mono HB05.out.size)⟩
    rcases HJF.out with h | ⟨g',off,h,hg⟩
    · left
      have:=(HF.out M HM.out).1
      rw [h] at this
      rw [← this]
      rfl
    · exact Or.inr ⟨g',off,h,Nat.le_trans HB2.out.size hg⟩)
  go_ret3
  exact ⟨_,_,rfl,HEND.out⟩
end Go.Proofs.YtcefmpnijjcekaaGreatDoor
