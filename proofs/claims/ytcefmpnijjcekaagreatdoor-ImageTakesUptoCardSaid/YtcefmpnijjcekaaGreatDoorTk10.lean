/- Proved here: plain facts on arrays: two parts exchanged, two neighbouring parts turned round, equals that keep their order, merging by turning parts round, and sorting in blocks. No conditions but those that each theorem names. Nothing of the program is read here. Proved here: what the library's stable sort of gaps does (slices.SortStableFunc and what it leans on), the .. -/
import Derived.Sort.LotA
import Derived.Sort.LotD2
import Derived.Test.YtcefmpnijjcekaaGreatDoorTk9
import Derived.Shelf.SlSortCmp.Insertion1
import Derived.BigRegion
import Derived.Deep.Cut
namespace Go.Proofs.YtcefmpnijjcekaaGreatDoor
open Go.Sort (swp SWO PermIn SortedIn size_swp swp_left swp_right swp_other swp_permIn permIn_refl permIn_trans permIn_mono permIn_all insInner insOuter insertionSort insertionSort_holds)
theorem swo_asym {α:Type} {lt:α→α→Bool} (hS:SWO lt) {x y:α} (h:lt x y=true):lt y x=false:=by
  cases h2:lt y x with
  | false=>rfl
  | true=>have:=hS.trans x y x h h2;rw [hS.irrefl] at this;cases this
theorem swo_between {α:Type} {lt:α→α→Bool} (hS:SWO lt) {x x' y y':α} (hx:lt x' x=false) (h:lt y x=true) (hy:lt y y'=false):lt y' x'=true:=by
  cases h2:lt y' x' with
  | true=>rfl
  | false=>
    have h3:=hS.ntrans _ _ _ (hS.ntrans _ _ _ hy h2) hx
    rw [h] at h3
    cases h3
section
variable {α:Type} [Inhabited α]
/-! ### Two parts exchanged -/
def sgm (a b n k:Nat):Nat:=if a≤k∧k < a+n then k - a+b else if b≤k∧k < b+n then k - b+a else k
def swapR (d:Array α) (a b:Nat):Nat→Array α
  | 0=>d
  | n+1=>swp (swapR d a b n) (a+n) (b+n)
theorem size_swapR (d:Array α) (a b:Nat):∀ n,(swapR d a b n).size=d.size
  | 0=>rfl
  | n+1=>by show (swp (swapR d a b n) (a+n) (b+n)).size=_;rw [size_swp,size_swapR d a b n]
theorem at_same {d:Array α} {i j:Nat} (h:i=j):d[i]! = d[j]! := by rw [h]
theorem swapR_get (d:Array α) (a b:Nat):∀ n,a+n≤b→b+n≤d.size→∀ k,(swapR d a b n)[k]! = d[sgm a b n k]!
  | 0,_,_,k=>by
    show d[k]! = _
    exact at_same (by unfold sgm;(repeat' split) <;> omega)
  | n+1,h1,h2,k=>by
    have ih:=swapR_get d a b n (by omega) (by omega)
    have hs:=size_swapR d a b n
    show (swp (swapR d a b n) (a+n) (b+n))[k]! = _
    by_cases e1:k=a+n
    · subst e1
      rw [swp_left _ _ _ (by omega) (by omega),ih]
      exact at_same (by unfold sgm;(repeat' split) <;> omega)
    · by_cases e2:k=b+n
      · subst e2
        rw [swp_right _ _ _ (by omega),ih]
        exact at_same (by unfold sgm;(repeat' split) <;> omega)
      · rw [swp_other _ _ _ _ e1 e2,ih]
        exact at_same (by unfold sgm;(repeat' split) <;> omega)
theorem swapR_perm (d:Array α) (lo hi a b:Nat):∀ n,lo≤a→lo≤b→a+n≤hi→b+n≤hi→hi≤d.size→PermIn lo hi d (swapR d a b n)
  | 0,_,_,_,_,_=>permIn_refl _ _ _
  | n+1,h1,h2,h3,h4,h5=>
    permIn_trans _ _ _ _ _ (swapR_perm d lo hi a b n h1 h2 (by omega) (by omega) h5) (swp_permIn _ _ _ _ _ (by omega) (by omega) (by omega) (by omega) (by rw [size_swapR];exact h5))
/-! ### Two neighbouring parts turned round -/
def rho (s m e k:Nat):Nat:=if k < s∨e≤k then k else if k < s+(e - m) then k+m - s else k+m - e
def Rot (s m e:Nat) (d d':Array α):Prop:=d'.size=d.size∧∀ k,d'[k]! = d[rho s m e k]!
theorem rot_big {dk D:Array α} {m i j:Nat} (hji:j < i) (him:i≤m) (hs:m+j≤dk.size) (h:Rot (m - i+j) m (m+j) (swapR dk (m - i) m j) D):Rot (m - i) m (m+j) dk D:=by
  refine ⟨h.1.trans (size_swapR _ _ _ _),fun k=>?_⟩
  rw [h.2 k,swapR_get _ _ _ _ (by omega) hs]
  exact at_same (by unfold rho sgm;(repeat' split) <;> omega)
theorem rot_small {dk D:Array α} {m i j:Nat} (hij:i < j) (him:i≤m) (hs:m+j≤dk.size) (h:Rot (m - i) m (m+j - i) (swapR dk (m - i) (m+j - i) i) D):Rot (m - i) m (m+j) dk D:=by
  refine ⟨h.1.trans (size_swapR _ _ _ _),fun k=>?_⟩
  rw [h.2 k,swapR_get _ _ _ _ (by omega) (by omega)]
  exact at_same (by unfold rho sgm;(repeat' split) <;> omega)
theorem rot_even {dk:Array α} {m i:Nat} (him:i≤m) (hs:m+i≤dk.size):Rot (m - i) m (m+i) dk (swapR dk (m - i) m i):=by
  refine ⟨size_swapR _ _ _ _,fun k=>?_⟩
  rw [swapR_get _ _ _ _ (by omega) hs]
  exact at_same (by unfold rho sgm;(repeat' split) <;> omega)
theorem rot_none (d:Array α) (s e:Nat) (h:s≤e):Rot s s e d d∧Rot s e e d d:=
  ⟨⟨rfl,fun k=>at_same (by unfold rho;(repeat' split) <;> omega)⟩,⟨rfl,fun k=>at_same (by unfold rho;(repeat' split) <;> omega)⟩⟩
theorem rot_up {d dk:Array α} {a k:Nat} (hak:a≤k) (hs:k+1 < d.size) (h:Rot a (a+1) (k+1) d dk):Rot a (a+1) (k+2) d (swp dk k (k+1)):=by
  have hz:=h.1
  refine ⟨by rw [size_swp];exact h.1,fun j=>?_⟩
  by_cases e1:j=k
  · subst e1
    rw [swp_left _ _ _ (by omega) (by omega),h.2]
    exact at_same (by unfold rho;(repeat' split) <;> omega)
  · by_cases e2:j=k+1
    · subst e2
      rw [swp_right _ _ _ (by omega),h.2]
      exact at_same (by unfold rho;(repeat' split) <;> omega)
    · rw [swp_other _ _ _ _ e1 e2,h.2]
      exact at_same (by unfold rho;(repeat' split) <;> omega)
theorem rot_down {d dk:Array α} {m k:Nat} (hkm:k+1≤m) (hs:m < d.size) (h:Rot (k+1) m (m+1) d dk):Rot k m (m+1) d (swp dk (k+1) k):=by
  have hz:=h.1
  refine ⟨by rw [size_swp];exact h.1,fun j=>?_⟩
  by_cases e1:j=k+1
  · subst e1
    rw [swp_left _ _ _ (by omega) (by omega),h.2]
    exact at_same (by unfold rho;(repeat' split) <;> omega)
  · by_cases e2:j=k
    · subst e2
      rw [swp_right _ _ _ (by omega),h.2]
      exact at_same (by unfold rho;(repeat' split) <;> omega)
    · rw [swp_other _ _ _ _ e1 e2,h.2]
      exact at_same (by unfold rho;(repeat' split) <;> omega)
/-! ### Equals keep their order -/
variable {lt:α→α→Bool} {R:α→α→Prop}
def Stab (lt:α→α→Bool) (R:α→α→Prop) (d:Array α):Prop:=∀ i j,i < j→j < d.size→lt d[j]! d[i]! = false→lt d[i]! d[j]! = false→R d[i]! d[j]!
theorem stab_rot {d d':Array α} {s m e:Nat} (hsm:s≤m) (hme:m≤e) (he:e≤d.size) (h:Rot s m e d d') (hl:∀ i j,s≤i→i < m→m≤j→j < e→lt d[j]! d[i]! = true) (hst:Stab lt R d):Stab lt R d':=by
  intro i j hij hj h1 h2
  rw [h.1] at hj
  rw [h.2 i,h.2 j] at h1 h2 ⊢
  have hc:rho s m e i < rho s m e j∨(m≤rho s m e i∧rho s m e i < e∧s≤rho s m e j∧rho s m e j < m):=by unfold rho;(repeat' split) <;> omega
  have hq:rho s m e j < d.size:=by unfold rho;(repeat' split) <;> omega
  rcases hc with hc | ⟨a1,a2,a3,a4⟩
  · exact hst _ _ hc hq h1 h2
  · rw [hl _ _ a3 a4 a1 a2] at h2
    cases h2
theorem swp_rot {d:Array α} {j:Nat} (hj:j+1 < d.size):Rot j (j+1) (j+2) d (swp d (j+1) j):=
  rot_down (m:=j+1) (k:=j) (Nat.le_refl _) hj (rot_none d (j+1) (j+2) (by omega)).1
theorem ins_inner_stab (a:Nat):∀ (j:Nat) (d:Array α),j < d.size→Stab lt R d→Stab lt R (insInner lt a j d)
  | 0,d,_,h=>by unfold insInner;exact h
  | j+1,d,hj,h=>by
    unfold insInner
    split
    · rename_i hc
      simp only [Bool.and_eq_true] at hc
      refine ins_inner_stab a j _ (by rw [size_swp];omega) (stab_rot (by omega) (by omega) (by omega) (swp_rot hj) ?_ h)
      intro i k h1 h2 h3 h4
      rw [show i=j by omega,show k=j+1 by omega]
      exact hc.2
    · exact h
theorem ins_inner_size (a:Nat):∀ (j:Nat) (d:Array α),(insInner lt a j d).size=d.size
  | 0,d=>by unfold insInner;rfl
  | j+1,d=>by
    unfold insInner
    split
    · rw [ins_inner_size a j,size_swp]
    · rfl
theorem ins_outer_stab (a b:Nat):∀ (n i:Nat) (d:Array α),b - i=n→b≤d.size→Stab lt R d→Stab lt R (insOuter lt a b i d)
  | 0,i,d,hn,_,h=>by
    rw [insOuter,if_neg (by omega)]
    exact h
  | n+1,i,d,hn,hb,h=>by
    rw [insOuter,if_pos (by omega)]
    exact ins_outer_stab a b n (i+1) _ (by omega) (by rw [ins_inner_size];exact hb) (ins_inner_stab a i d (by omega) h)
theorem insertion_stab {d:Array α} {a b:Nat} (hb:b≤d.size) (h:Stab lt R d):Stab lt R (insertionSort lt d a b):=ins_outer_stab a b _ _ d rfl hb h
/-! ### Merging -/
theorem sorted_le (hS:SWO lt) {a b i j:Nat} {d:Array α} (h:SortedIn lt a b d) (h1:a≤i) (h2:i≤j) (h3:j < b):lt d[j]! d[i]! = false:=by
  by_cases e:i=j
  · rw [e];exact hS.irrefl _
  · exact h i j h1 (by omega) h3
theorem ins_left (hS:SWO lt) {d d':Array α} {a b i:Nat} (hai:a+1≤i) (hib:i≤b) (hb:b≤d.size) (hs:SortedIn lt (a+1) b d) (hst:Stab lt R d) (h1:i=a+1∨lt d[i - 1]! d[a]! = true) (h2:i=b∨lt d[i]! d[a]! = false) (hr:Rot a (a+1) i d d') :
    SortedIn lt a b d'∧Stab lt R d':=by
  have f1:∀ k,a+1≤k→k < i→lt d[k]! d[a]! = true:=fun k k1 k2=>by
    rcases h1 with h1 | h1
    · omega
    · exact swo_between hS (hS.irrefl _) h1 (sorted_le hS hs k1 (by omega) (by omega))
  have f2:∀ k,i≤k→k < b→lt d[k]! d[a]! = false:=fun k k1 k2=>by
    rcases h2 with h2 | h2
    · omega
    · exact hS.ntrans _ _ _ (sorted_le hS hs hai k1 k2) h2
  refine ⟨fun p q hp hpq hq=>?_,stab_rot (by omega) hai (by omega) hr (fun p q p1 p2 q1 q2=>by rw [show p=a by omega];exact f1 q q1 q2) hst⟩
  rw [hr.2 p,hr.2 q]
  have hc:(rho a (a+1) i p=p+1∧p+1 < i)∨(rho a (a+1) i p=a∧p+1=i)∨(rho a (a+1) i p=p∧i≤p):=by unfold rho;(repeat' split) <;> omega
  have hd:(rho a (a+1) i q=q+1∧q+1 < i)∨(rho a (a+1) i q=a∧q+1=i)∨(rho a (a+1) i q=q∧i≤q):=by unfold rho;(repeat' split) <;> omega
  rcases hc with ⟨e1,c1⟩ | ⟨e1,c1⟩ | ⟨e1,c1⟩ <;> rcases hd with ⟨e2,c2⟩ | ⟨e2,c2⟩ | ⟨e2,c2⟩ <;> rw [e1,e2]
  · exact hs _ _ (by omega) (by omega) (by omega)
  · exact swo_asym hS (f1 _ (by omega) (by omega))
  · exact hs _ _ (by omega) (by omega) (by omega)
  · omega
  · omega
  · exact f2 _ (by omega) (by omega)
  · omega
  · omega
  · exact hs _ _ (by omega) (by omega) (by omega)
theorem ins_right (hS:SWO lt) {d d':Array α} {a m i:Nat} (hai:a≤i) (him:i≤m) (hb:m < d.size) (hs:SortedIn lt a m d) (hst:Stab lt R d) (h1:i=a∨lt d[m]! d[i - 1]! = false) (h2:i=m∨lt d[m]! d[i]! = true) (hr:Rot i m (m+1) d d') :
    SortedIn lt a (m+1) d'∧Stab lt R d':=by
  have f1:∀ k,a≤k→k < i→lt d[m]! d[k]! = false:=fun k k1 k2=>by
    rcases h1 with h1 | h1
    · omega
    · exact hS.ntrans _ _ _ h1 (sorted_le hS hs k1 (by omega) (by omega))
  have f2:∀ k,i≤k→k < m→lt d[m]! d[k]! = true:=fun k k1 k2=>by
    rcases h2 with h2 | h2
    · omega
    · exact swo_between hS (sorted_le hS hs hai k1 k2) h2 (hS.irrefl _)
  refine ⟨fun p q hp hpq hq=>?_,stab_rot him (by omega) (by omega) hr (fun p q p1 p2 q1 q2=>by rw [show q=m by omega];exact f2 p p1 p2) hst⟩
  rw [hr.2 p,hr.2 q]
  have hc:(rho i m (m+1) p=p∧p < i)∨(rho i m (m+1) p=m∧p=i)∨(rho i m (m+1) p=p - 1∧i < p):=by unfold rho;(repeat' split) <;> omega
  have hd:(rho i m (m+1) q=q∧q < i)∨(rho i m (m+1) q=m∧q=i)∨(rho i m (m+1) q=q - 1∧i < q):=by unfold rho;(repeat' split) <;> omega
  rcases hc with ⟨e1,c1⟩ | ⟨e1,c1⟩ | ⟨e1,c1⟩ <;> rcases hd with ⟨e2,c2⟩ | ⟨e2,c2⟩ | ⟨e2,c2⟩ <;> rw [e1,e2]
  · exact hs _ _ (by omega) (by omega) (by omega)
  · exact f1 _ (by omega) (by omega)
  · exact hs _ _ (by omega) (by omega) (by omega)
  · omega
  · omega
  · exact swo_asym hS (f2 _ (by omega) (by omega))
  · omega
  · omega
  · exact hs _ _ (by omega) (by omega) (by omega)
def Halved (lt:α→α→Bool) (R:α→α→Prop) (a s mid e b:Nat) (d:Array α):Prop:=
  Stab lt R d∧SortedIn lt a s d∧SortedIn lt s mid d∧SortedIn lt mid e d∧SortedIn lt e b d∧∀ i j,a≤i→i < mid→mid≤j→j < b→lt d[j]! d[i]! = false
theorem halved (hS:SWO lt) {d d':Array α} {a m b s mid e:Nat} (hb:b≤d.size) (he:s+e=mid+m) (h1:a≤s) (h2:s≤m) (h3:s≤mid) (h4:m≤e) (h5:mid≤e) (h6:e≤b) (s1:SortedIn lt a m d) (s2:SortedIn lt m b d) (hst:Stab lt R d)
    (F1:a < s→e < b→lt d[e]! d[s - 1]! = false) (F2:s < m→m < e→lt d[e - 1]! d[s]! = true) (hr:Rot s m e d d'):Halved lt R a s mid e b d':=by
  have fl:∀ i j,s≤i→i < m→m≤j→j < e→lt d[j]! d[i]! = true:=fun i j i1 i2 j1 j2=>
    swo_between hS (sorted_le hS s1 h1 i1 i2) (F2 (by omega) (by omega)) (sorted_le hS s2 j1 (by omega) (by omega))
  have fo:∀ i j,a≤i→i < s→e≤j→j < b→lt d[j]! d[i]! = false:=fun i j i1 i2 j1 j2=>
    hS.ntrans _ _ _ (hS.ntrans _ _ _ (sorted_le hS s2 h4 j1 j2) (F1 (by omega) (by omega))) (sorted_le hS s1 i1 (by omega) (by omega))
  have g:∀ k,(k < s→rho s m e k=k)∧(s≤k→k < mid→rho s m e k=k+m - s)∧(mid≤k→k < e→rho s m e k=k+m - e)∧(e≤k→rho s m e k=k):=fun k=>by
    refine ⟨fun _=>?_,fun _ _=>?_,fun _ _=>?_,fun _=>?_⟩ <;> unfold rho <;> (repeat' split) <;> omega
  refine ⟨stab_rot h2 h4 (by omega) hr fl hst,fun i j i1 ij j1=>?_,fun i j i1 ij j1=>?_,fun i j i1 ij j1=>?_,fun i j i1 ij j1=>?_,fun i j i1 i2 j1 j2=>?_⟩
  · rw [hr.2 i,hr.2 j,(g i).1 (by omega),(g j).1 (by omega)]
    exact s1 _ _ (by omega) (by omega) (by omega)
  · rw [hr.2 i,hr.2 j,(g i).2.1 (by omega) (by omega),(g j).2.1 (by omega) (by omega)]
    exact s2 _ _ (by omega) (by omega) (by omega)
  · rw [hr.2 i,hr.2 j,(g i).2.2.1 (by omega) (by omega),(g j).2.2.1 (by omega) (by omega)]
    exact s1 _ _ (by omega) (by omega) (by omega)
  · rw [hr.2 i,hr.2 j,(g i).2.2.2 (by omega),(g j).2.2.2 (by omega)]
    exact s2 _ _ (by omega) (by omega) (by omega)
  · rw [hr.2 i,hr.2 j]
    by_cases ci:i < s
    · rw [(g i).1 ci]
      by_cases cj:j < e
      · rw [(g j).2.2.1 j1 cj]
        exact sorted_le hS s1 i1 (by omega) (by omega)
      · rw [(g j).2.2.2 (by omega)]
        exact fo _ _ i1 ci (by omega) j2
    · rw [(g i).2.1 (by omega) i2]
      by_cases cj:j < e
      · rw [(g j).2.2.1 j1 cj]
        exact swo_asym hS (fl _ _ (by omega) (by omega) (by omega) (by omega))
      · rw [(g j).2.2.2 (by omega)]
        exact sorted_le hS s2 (by omega) (by omega) j2
theorem sorted_same {a b:Nat} {d d':Array α} (h:SortedIn lt a b d) (he:∀ k,a≤k→k < b→d'[k]! = d[k]!):SortedIn lt a b d':=fun i j h1 h2 h3=>by
  rw [he i h1 (by omega),he j (by omega) h3]
  exact h i j h1 h2 h3
theorem glue_halves {d1 d2 d3:Array α} {a mid b:Nat} (ham:a≤mid) (hmb:mid≤b) (hb:b≤d1.size) (hc:∀ i j,a≤i→i < mid→mid≤j→j < b→lt d1[j]! d1[i]! = false) (p2:PermIn a mid d1 d2) (s2:SortedIn lt a mid d2) (p3:PermIn mid b d2 d3) (s3:SortedIn lt mid b d3) :
    PermIn a b d1 d3∧SortedIn lt a b d3:=by
  have z2:d2.size=d1.size:=p2.1
  refine ⟨permIn_trans _ _ _ _ _ (permIn_mono _ _ _ _ _ _ (Nat.le_refl _) hmb hb p2) (permIn_mono _ _ _ _ _ _ ham (Nat.le_refl _) (by omega) p3),fun i j h1 h2 h3=>?_⟩
  by_cases cj:j < mid
  · rw [p3.2.1 i (Or.inl (by omega)),p3.2.1 j (Or.inl cj)]
    exact s2 i j h1 h2 cj
  · by_cases ci:i < mid
    · have c2:∀ i j,a≤i→i < mid→mid≤j→j < b→lt d2[j]! d2[i]! = false:=fun i j i1 i2 j1 j2=>by
        rw [p2.2.1 j (Or.inr j1)]
        exact permIn_all _ _ _ _ (fun x=>lt d1[j]! x=false) (by omega) p2 (fun k k1 k2=>hc k j k1 k2 j1 j2) i i1 i2
      rw [p3.2.1 i (Or.inl ci)]
      exact permIn_all _ _ _ _ (fun x=>lt x d2[i]! = false) (by omega) p3 (fun k k1 k2=>c2 i k h1 ci k1 k2) j (by omega) h3
    · exact s3 i j (by omega) h2 h3
/-! ### Sorting in blocks -/
def Blocks (lt:α→α→Bool) (bs lo hi n:Nat) (d:Array α):Prop:=∀ k,lo≤k * bs→k * bs < hi→SortedIn lt (k * bs) (min (k * bs+bs) n) d
theorem blocks_none (bs n:Nat) (d:Array α):Blocks lt bs 0 0 n d:=fun k _ h=>by omega
theorem blocks_more {bs q n:Nat} {d d':Array α} (h:Blocks lt bs 0 (q * bs) n d) (hp:PermIn (q * bs) (q * bs+bs) d d') (hs:SortedIn lt (q * bs) (q * bs+bs) d'):Blocks lt bs 0 ((q+1) * bs) n d':=by
  intro k _ hk
  rcases Nat.lt_trichotomy k q with h1 | h1 | h1
  · have h2:(k+1) * bs≤q * bs:=Nat.mul_le_mul_right bs h1
    rw [Nat.add_mul,Nat.one_mul] at h2
    have hb:0 < bs:=by
      rcases Nat.eq_zero_or_pos bs with h | h
      · subst h;simp at hk
      · exact h
    refine sorted_same (h k (Nat.zero_le _) (by omega)) (fun i i1 i2=>hp.2.1 i (Or.inl (by omega)))
  · subst h1
    exact fun i j i1 ij j1=>hs i j i1 ij (by omega)
  · have h2:(q+1) * bs≤k * bs:=Nat.mul_le_mul_right bs h1
    omega
theorem blocks_last {bs q n:Nat} {d d':Array α} (h:Blocks lt bs 0 (q * bs) n d) (hn:n≤q * bs+bs) (hp:PermIn (q * bs) n d d') (hs:SortedIn lt (q * bs) n d'):Blocks lt bs 0 n n d':=by
  intro k _ hk
  rcases Nat.lt_trichotomy k q with h1 | h1 | h1
  · have h2:(k+1) * bs≤q * bs:=Nat.mul_le_mul_right bs h1
    rw [Nat.add_mul,Nat.one_mul] at h2
    by_cases hb:bs=0
    · subst hb
      intro i j i1 ij j1
      simp at j1
    · refine sorted_same (h k (Nat.zero_le _) (by omega)) (fun i i1 i2=>hp.2.1 i (Or.inl (by omega)))
  · subst h1
    exact fun i j i1 ij j1=>hs i j i1 ij (by omega)
  · have h2:(q+1) * bs≤k * bs:=Nat.mul_le_mul_right bs h1
    rw [Nat.add_mul,Nat.one_mul] at h2
    omega
theorem blocks_ahead {bs lo lo' hi n b:Nat} {d d':Array α} (h:Blocks lt bs lo hi n d) (hl:lo≤lo') (hb:b≤lo') (he:∀ i,b≤i→d'[i]! = d[i]!):Blocks lt bs lo' hi n d':=fun k h1 h2=>
  sorted_same (h k (by omega) h2) (fun i i1 _=>he i (by omega))
theorem two_blocks {q bs:Nat}:(2 * q) * bs=q * (2 * bs)∧(2 * q+1) * bs=q * (2 * bs)+bs:=by
  have e:(2 * q) * bs=q * (2 * bs):=by rw [Nat.mul_comm 2 q,Nat.mul_assoc]
  exact ⟨e,by rw [Nat.add_mul,Nat.one_mul,e]⟩
theorem blocks_two {bs q n:Nat} {d:Array α} (h:Blocks lt bs (q * (2 * bs)) n n d) (hb:q * (2 * bs)+2 * bs≤n) (h0:0 < bs):SortedIn lt (q * (2 * bs)) (q * (2 * bs)+bs) d∧SortedIn lt (q * (2 * bs)+bs) (q * (2 * bs)+2 * bs) d:=by
  obtain ⟨e1,e2⟩:=two_blocks (q:=q) (bs:=bs)
  have h1:=h (2 * q) (by omega) (by omega)
  have h2:=h (2 * q+1) (by omega) (by omega)
  rw [e1] at h1
  rw [e2] at h2
  exact ⟨fun i j i1 ij j1=>h1 i j i1 ij (by omega),fun i j i1 ij j1=>h2 i j i1 ij (by omega)⟩
theorem blocks_two_last {bs q n:Nat} {d:Array α} (h:Blocks lt bs (q * (2 * bs)) n n d) (hb:q * (2 * bs)+bs < n) (hn:n≤q * (2 * bs)+2 * bs) (h0:0 < bs):SortedIn lt (q * (2 * bs)) (q * (2 * bs)+bs) d∧SortedIn lt (q * (2 * bs)+bs) n d:=by
  obtain ⟨e1,e2⟩:=two_blocks (q:=q) (bs:=bs)
  have h1:=h (2 * q) (by omega) (by omega)
  have h2:=h (2 * q+1) (by omega) (by omega)
  rw [e1] at h1
  rw [e2] at h2
  exact ⟨fun i j i1 ij j1=>h1 i j i1 ij (by omega),fun i j i1 ij j1=>h2 i j i1 ij (by omega)⟩
theorem blocks_one_last {bs q n:Nat} {d:Array α} (h:Blocks lt bs (q * (2 * bs)) n n d) (hn:n≤q * (2 * bs)+bs):SortedIn lt (q * (2 * bs)) n d:=by
  obtain ⟨e1,_⟩:=two_blocks (q:=q) (bs:=bs)
  by_cases hq:q * (2 * bs) < n
  · have h1:=h (2 * q) (by omega) (by omega)
    rw [e1] at h1
    exact fun i j i1 ij j1=>h1 i j i1 ij (by omega)
  · exact fun i j i1 ij j1=>by omega
theorem blocks_all {bs n:Nat} {d:Array α} (h:Blocks lt bs 0 n n d) (hn:n≤bs):SortedIn lt 0 n d:=by
  by_cases h0:0 < n
  · have h1:=h 0 (Nat.zero_le _) (by omega)
    rw [Nat.zero_mul] at h1
    exact fun i j i1 ij j1=>h1 i j i1 ij (by omega)
  · exact fun i j i1 ij j1=>by omega
end
end Go.Proofs.YtcefmpnijjcekaaGreatDoor
namespace Go.Proofs.YtcefmpnijjcekaaGreatDoor
open Go.RowKit
open Go.Sort (swp SWO PermIn SortedIn size_swp insertionSort)
set_option maxRecDepth 100000 in
set_option maxHeartbeats 4000000 in
theorem swapR_walk (g blk off cap N a b n:Nat) (d0 d:Array Gp) (w0 w:World) (R:Row1 encG w0 blk off d0) (hs0:d0.size=N) (hs:d.size=N) (S:SW encG w0 blk off d w) (hab:a+n≤b) (hb:b+n≤N) (hN:N≤481) :
    Calls Tryz.prog 257 #[.slice (some ⟨blk,off,none⟩) N cap,.int .i64 a,.int .i64 b,.int .i64 n,.func (.func g) #[] #[]] w fun e w'=>e=.returned (.tuple #[])∧SW encG w0 blk off (swapR d a b n) w':=by
  have hcl0:=R.hO.cells
  simp only [Value.cells] at hcl0
  have hst:=R.hO.store Tryz.prog
  have S0:Hid (SW encG w0 blk off d w):=S
  have HS:=Lib.hid hs
  clear S hs
  go_enter Tryz.func257,Tryz.ntmps257
  go_wp2_with fail
  go_loopw [10] (fun iv wr=>∃ i:Nat,iv=.int .i64 i∧i≤n∧Hid (SW encG w0 blk off (swapR d a b i) wr)) (fun iv _=>n - (intOf iv).toNat)
  case atStart=>exact ⟨0,rfl,Nat.zero_le _,S0⟩
  case round=>
    clear S0
    obtain ⟨i,rfl,hin,S1⟩:=hrel
    have hsz:(swapR d a b i).size=N:=by rw [size_swapR,HS.out]
    by_cases hlt:i < n
    · have hltz:(i:Int) < (n:Int):=by omega
      go_wp2_with fail
      obtain ⟨p,hp⟩:∃ q,q=a+i:=⟨_,rfl⟩
      obtain ⟨q,hq⟩:∃ q,q=b+i:=⟨_,rfl⟩
      have ea:((a:Int)+(i:Int)).toNat=p:=by omega
      have pa:(0:Int)≤(a:Int)+(i:Int):=by omega
      have ba:(a:Int)+(i:Int) < (N:Int):=by omega
      have ra:IntKind.i64.wrap ((a:Int)+(i:Int))=(a:Int)+(i:Int):=by rw [IntKind.wrap_i64];omega
      have ec:((b:Int)+(i:Int)).toNat=q:=by omega
      have pc:(0:Int)≤(b:Int)+(i:Int):=by omega
      have bc:(b:Int)+(i:Int) < (N:Int):=by omega
      have rc:IntKind.i64.wrap ((b:Int)+(i:Int))=(b:Int)+(i:Int):=by rw [IntKind.wrap_i64];omega
      obtain ⟨x,hx⟩:∃ x,x=(swapR d a b i)[p]! := ⟨_,rfl⟩
      obtain ⟨y,hy⟩:∃ x,x=(swapR d a b i)[q]! := ⟨_,rfl⟩
      have S2:Hid (SW encG w0 blk off (swapR d a b (i+1)) ((wr.setCell ⟨blk,off+p,none⟩ (encG y)).setCell ⟨blk,off+q,none⟩ (encG x)).drew):=by
        rw [hx,hy,hp,hq]
        exact S1.out.swapped R (a+i) (b+i) (by omega) (by omega)
      have c1:=S1.out.c1 R (by omega) p (by omega)
      have c2:=S1.out.c1 R (by omega) q (by omega)
      have f1:=S1.out.f1 R (by omega) p (by omega)
      have f2:=S1.out.f1 R (by omega) q (by omega)
      obtain ⟨u,c3⟩:=S1.out.c2 R (by omega) p q (by omega) (by omega) (encG y)
      rw [← hx] at c1
      rw [← hy] at c2
      clear S1 hx hy hp hq
      go_big_region
      clear c1 c2 c3 f1 f2
      generalize ((wr.setCell ⟨blk,off+p,none⟩ (encG y)).setCell ⟨blk,off+q,none⟩ (encG x)).drew=w2 at S2 ⊢
      clear ea ec
      go_wp2_with fail
      go_roundw
      case rel=>exact ⟨i+1,by go_num,by omega,S2⟩
      case measure=>simp [intOf];omega
    · have hin':i=n:=by omega
      subst hin'
      go_wp2_with fail
      go_end0
      exact ⟨rfl,S1.out⟩
def Turning (a m b N i j:Nat) (d dk:Array Gp):Prop:=dk.size=N∧PermIn a b d dk∧∀ D,Rot (m - i) m (m+j) dk D→Rot a m b d D
set_option maxRecDepth 100000 in
set_option maxHeartbeats 4000000 in
theorem rotate_walk (g blk off cap N a m b:Nat) (d0 d:Array Gp) (w0 w:World) (R:Row1 encG w0 blk off d0) (hs0:d0.size=N) (hs:d.size=N) (S:SW encG w0 blk off d w) (ham:a < m) (hmb:m < b) (hb:b≤N) (hN:N≤481) :
    Calls Tryz.prog 242 #[.slice (some ⟨blk,off,none⟩) N cap,.int .i64 a,.int .i64 m,.int .i64 b,.func (.func g) #[] #[]] w fun e w'=>e=.returned (.tuple #[])∧∃ D,Rot a m b d D∧PermIn a b d D∧SW encG w0 blk off D w':=by
  have S0:Hid (SW encG w0 blk off d w):=S
  have HC:Hid (∀ (x y n:Nat) (dk:Array Gp) (wr:World),dk.size=N→SW encG w0 blk off dk wr→x+n≤y→y+n≤N→Calls Tryz.prog 257 #[.slice (some ⟨blk,off,none⟩) N cap,.int .i64 x,.int .i64 y,.int .i64 n,.func (.func g) #[] #[]] wr fun e w'=>e=.returned (.tuple #[])∧SW encG w0 blk off (swapR dk x y n) w'):=
    Lib.hid (fun x y n dk wr h1 h2 h3 h4=>swapR_walk g blk off cap N x y n d0 dk w0 wr R hs0 h1 h2 h3 h4 hN)
  have e1:(m:Int) - (a:Int)=((m - a:Nat):Int):=by omega
  have e2:(b:Int) - (m:Int)=((b - m:Nat):Int):=by omega
  have HT0:Hid (Turning a m b N (m - a) (b - m) d d):=Lib.hid ⟨hs,Sort.permIn_refl _ _ _,fun D h=>by rwa [show m - (m - a)=a by omega,show m+(b - m)=b by omega] at h⟩
  have HE1:=Lib.hid e1
  have HE2:=Lib.hid e2
  clear S R hs0 hs e1 e2
  go_enter Tryz.func242,Tryz.ntmps242
  go_wp2_with fail
  go_loopw [10,11] (fun iv jv wr=>∃ (i j:Nat) (dk:Array Gp),iv=.int .i64 i∧jv=.int .i64 j∧0 < i∧0 < j∧a+i≤m∧m+j≤b∧Hid (Turning a m b N i j d dk)∧Hid (SW encG w0 blk off dk wr)) (fun iv jv _=>(intOf iv).toNat+(intOf jv).toNat)
  case atStart=>exact ⟨m - a,b - m,d,by rw [HE1.out],by rw [HE2.out],by omega,by omega,by omega,by omega,HT0,S0⟩
  case round=>
    clear S0 HT0
    obtain ⟨i,j,dk,rfl,rfl,i0,j0,i1,j1,HT,S1⟩:=hrel
    have hz:=HT.out.1
    have e3:((m - i:Nat):Int)=(m:Int) - (i:Int):=by omega
    by_cases heq:i=j
    · subst heq
      have c:=HC.out (m - i) m i dk wr hz S1.out (by omega) (by omega)
      rw [e3] at c
      have HF:Hid (Rot a m b d (swapR dk (m - i) m i)∧PermIn a b d (swapR dk (m - i) m i)):=Lib.hid ⟨HT.out.2.2 _ (rot_even (by omega) (by omega)),Sort.permIn_trans _ _ _ _ _ HT.out.2.1 (swapR_perm dk a b (m - i) m i (by omega) (by omega) (by omega) (by omega) (by omega))⟩
      clear e3 hz HT
      go_wp2_with fail
      refine c.mono ?_
      rintro e w2 ⟨rfl,hS2⟩
      have S2:=Lib.hid hS2
      clear hS2 c
      go_wp2_with fail
      go_end0
      exact ⟨rfl,_,HF.out.1,HF.out.2,S2.out⟩
    · have hne:((i:Int) != (j:Int))=true:=by simp;omega
      by_cases hlt:j < i
      · have c:=HC.out (m - i) m j dk wr hz S1.out (by omega) (by omega)
        rw [e3] at c
        have HT2:Hid (Turning a m b N (i - j) j d (swapR dk (m - i) m j)):=Lib.hid ⟨by rw [size_swapR];exact hz,Sort.permIn_trans _ _ _ _ _ HT.out.2.1 (swapR_perm dk a b (m - i) m j (by omega) (by omega) (by omega) (by omega) (by omega)),fun D h=>HT.out.2.2 D (rot_big hlt (by omega) (by omega) (by rwa [show m - i+j=m - (i - j) by omega]))⟩
        have hltz:(j:Int) < (i:Int):=by omega
        clear e3 hz HT heq
        go_wp2_with fail
        refine c.mono ?_
        rintro e w2 ⟨rfl,hS2⟩
        have S2:=Lib.hid hS2
        clear hS2 c
        go_wp2_with fail
        go_roundw
        case rel=>exact ⟨i - j,j,_,by go_num,rfl,by omega,j0,by omega,j1,HT2,S2⟩
        case measure=>simp [intOf];omega
      · have e4:((m+j - i:Nat):Int)=(m:Int)+(j:Int) - (i:Int):=by omega
        have c:=HC.out (m - i) (m+j - i) i dk wr hz S1.out (by omega) (by omega)
        rw [e3,e4] at c
        have HT2:Hid (Turning a m b N i (j - i) d (swapR dk (m - i) (m+j - i) i)):=Lib.hid ⟨by rw [size_swapR];exact hz,Sort.permIn_trans _ _ _ _ _ HT.out.2.1 (swapR_perm dk a b (m - i) (m+j - i) i (by omega) (by omega) (by omega) (by omega) (by omega)),fun D h=>HT.out.2.2 D (rot_small (by omega) (by omega) (by omega) (by rw [show m+(j - i)=m+j - i by omega] at h;exact h))⟩
        have hltz:¬ (j:Int) < (i:Int):=by omega
        clear e3 e4 hz HT
        go_wp2_with fail
        refine c.mono ?_
        rintro e w2 ⟨rfl,hS2⟩
        have S2:=Lib.hid hS2
        clear hS2 c
        go_wp2_with fail
        go_roundw
        case rel=>exact ⟨i,j - i,_,rfl,by go_num,i0,by omega,i1,by omega,HT2,S2⟩
        case measure=>simp [intOf];omega
end Go.Proofs.YtcefmpnijjcekaaGreatDoor
namespace Go.Proofs.YtcefmpnijjcekaaGreatDoor
open Go.RowKit
open Go.Sort (swp SWO PermIn SortedIn size_swp insertionSort)
def Merged (cf:Gp→Gp→Int) (Rel:Gp→Gp→Prop) (w0:World) (blk off a b:Nat) (d:Array Gp) (e:Ending) (w':World):Prop:=
  e=.returned (.tuple #[])∧∃ D,PermIn a b d D∧SortedIn (ltOf cf) a b D∧Stab (ltOf cf) Rel D∧SW encG w0 blk off D w'
set_option maxRecDepth 100000 in
set_option maxHeartbeats 4000000 in
theorem sym_left (g:Nat) (cf:Gp→Gp→Int) (hc:Cmps g cf) (eg:∀ args w,(callFunc g args).run Tryz.prog w=.ok (.enter g args) w) (hO:SWO (ltOf cf)) (Rel:Gp→Gp→Prop) (blk off cap N a m b:Nat) (d0 d:Array Gp) (w0 w:World) (R:Row1 encG w0 blk off d0) (hs0:d0.size=N) (hs:d.size=N) (S:SW encG w0 blk off d w)
    (ham:m=a+1) (hmb:m < b) (hb:b≤N) (hN:N≤481) (h2:SortedIn (ltOf cf) m b d) (hst:Stab (ltOf cf) Rel d) :
    Calls Tryz.prog 217 #[.slice (some ⟨blk,off,none⟩) N cap,.int .i64 a,.int .i64 m,.int .i64 b,.func (.func g) #[] #[]] w (Merged cf Rel w0 blk off a b d):=by
  have hcl0:=R.hO.cells
  simp only [Value.cells] at hcl0
  have hst0:=R.hO.store Tryz.prog
  have S0:Hid (SW encG w0 blk off d w):=S
  have HC:=Lib.hid hc
  have HO:=Lib.hid hO
  have HFIN:Hid (∀ (i:Nat) (D:Array Gp),a+1≤i→i≤b→(i=m∨ltOf cf d[i - 1]! d[a]! = true)→(i=b∨ltOf cf d[i]! d[a]! = false)→Rot a (a+1) i d D→SortedIn (ltOf cf) a b D∧Stab (ltOf cf) Rel D):=
    Lib.hid (fun i D i1 i2 h3 h4 hr=>ins_left hO i1 i2 (by omega) (by rw [← ham];exact h2) hst (by rw [ham] at h3;exact h3) h4 hr)
  have ht:((m:Int) - (a:Int) == 1)=true:=by simp;omega
  have HM:=Lib.hid ham
  have hma:a+1≤m∧m≤a+1:=by omega
  obtain ⟨hma1,hma2⟩:=hma
  clear S hc h2 hst ham hO
  go_enter Tryz.func217,Tryz.ntmps217
  go_wp2_with fail
  clear ht
  go_loopw [10,11] (fun iv jv wr=>∃ i j:Nat,iv=.int .i64 i∧jv=.int .i64 j∧m≤i∧i≤j∧j≤b∧Hid (i=m∨ltOf cf d[i - 1]! d[a]! = true)∧Hid (j=b∨ltOf cf d[j]! d[a]! = false)∧Hid (SW encG w0 blk off d wr)) (fun iv jv _=>(intOf jv).toNat - (intOf iv).toNat)
  case atStart=>exact ⟨m,b,rfl,rfl,Nat.le_refl _,by omega,Nat.le_refl _,Lib.hid (Or.inl rfl),Lib.hid (Or.inl rfl),S0⟩
  case round=>
    clear S0
    obtain ⟨i,j,rfl,rfl,i1,ij,j1,HI,HJ,S1⟩:=hrel
    by_cases hlt:i < j
    · have hltz:(i:Int) < (j:Int):=by omega
      obtain ⟨h,hh⟩:∃ h:Nat,((i:Int)+(j:Int)) / 2=(h:Int):=⟨(i+j) / 2,by omega⟩
      have h1:i≤h∧h < j:=by omega
      obtain ⟨h1,h2⟩:=h1
      go_wp2_with fail
      clear hh
      cases hlv:ltOf cf d[h]! d[a]! with
      | true=>
        obtain ⟨x,hx⟩:∃ x,x=d[h]! := ⟨_,rfl⟩
        obtain ⟨y,hy⟩:∃ x,x=d[a]! := ⟨_,rfl⟩
        have c1:=S1.out.c1 R (by omega) (h) (by omega)
        have c2:=S1.out.c1 R (by omega) (a) (by omega)
        rw [← hx] at c1
        rw [← hy] at c2
        have cc:∀ q,Calls Tryz.prog g #[encG x,encG y] (wr.drewN q) fun e w'=>e=.returned (.int .i64 (cf x y))∧w'=wr.drewN q:=fun q=>(HC.out x y _).mono (by rintro e w' ⟨rfl,rfl⟩;exact ⟨rfl,rfl⟩)
        have hv:cf x y < 0:=by rw [hx,hy];exact of_decide_eq_true hlv
        have hd:decide (cf x y < 0)=true:=decide_eq_true hv
        have HLV:=Lib.hid hlv
        clear hx hy hlv
        go_quiet (first | (go_at_fn g;refine Calls.quiet_of_same (cc _)))
        have S2:Hid (SW encG w0 blk off d (wr.drewN nq)):=Lib.hid (S1.out.drewN nq)
        clear c1 c2 cc S1
        generalize wr.drewN nq=w2 at S2 ⊢
        clear nq
        go_wp2_with fail
        go_roundw
        case rel=>exact ⟨h+1,j,by go_num,rfl,by omega,by omega,j1,Lib.hid (Or.inr (by rw [show h+1 - 1=h by omega];exact HLV.out)),HJ,S2⟩
        case measure=>simp [intOf];omega
      | false=>
        obtain ⟨x,hx⟩:∃ x,x=d[h]! := ⟨_,rfl⟩
        obtain ⟨y,hy⟩:∃ x,x=d[a]! := ⟨_,rfl⟩
        have c1:=S1.out.c1 R (by omega) (h) (by omega)
        have c2:=S1.out.c1 R (by omega) (a) (by omega)
        rw [← hx] at c1
        rw [← hy] at c2
        have cc:∀ q,Calls Tryz.prog g #[encG x,encG y] (wr.drewN q) fun e w'=>e=.returned (.int .i64 (cf x y))∧w'=wr.drewN q:=fun q=>(HC.out x y _).mono (by rintro e w' ⟨rfl,rfl⟩;exact ⟨rfl,rfl⟩)
        have hv:¬ cf x y < 0:=by rw [hx,hy];exact of_decide_eq_false hlv
        have hd:decide (cf x y < 0)=false:=decide_eq_false hv
        have HLV:=Lib.hid hlv
        clear hx hy hlv
        go_quiet (first | (go_at_fn g;refine Calls.quiet_of_same (cc _)))
        have S2:Hid (SW encG w0 blk off d (wr.drewN nq)):=Lib.hid (S1.out.drewN nq)
        clear c1 c2 cc S1
        generalize wr.drewN nq=w2 at S2 ⊢
        clear nq
        go_wp2_with fail
        go_roundw
        case rel=>exact ⟨i,h,rfl,rfl,i1,h1,by omega,HI,Lib.hid (Or.inr HLV.out),S2⟩
        case measure=>simp [intOf];omega
    · have hij:i=j:=by omega
      subst hij
      have HF2:Hid (∀ D,Rot a (a+1) i d D→SortedIn (ltOf cf) a b D∧Stab (ltOf cf) Rel D):=Lib.hid (fun D hr=>HFIN.out i D (by omega) j1 HI.out HJ.out hr)
      have HK0:Hid (Rot a (a+1) (a+1) d d∧PermIn a b d d):=Lib.hid ⟨(rot_none d a (a+1) (by omega)).2,Sort.permIn_refl _ _ _⟩
      clear HI HJ HFIN hlt ij
      go_wp2_with fail
      go_loopw [13] (fun kv wr=>∃ (k:Nat) (dk:Array Gp),kv=.int .i64 k∧a≤k∧k+1≤i∧Hid (Rot a (a+1) (k+1) d dk∧PermIn a b d dk)∧Hid (SW encG w0 blk off dk wr)) (fun kv _=>i - (intOf kv).toNat)
      case atStart=>exact ⟨a,d,rfl,Nat.le_refl _,by omega,HK0,S1⟩
      case round=>
        clear S1 HK0
        obtain ⟨k,dk,rfl,k1,k2,HK,S1⟩:=hrel
        have hz:=HK.out.1.1
        by_cases hlt:k+1 < i
        · have hltz:(k:Int) < (i:Int) - 1:=by omega
          have HK2:Hid (Rot a (a+1) (k+2) d (swp dk k (k+1))∧PermIn a b d (swp dk k (k+1))):=Lib.hid ⟨rot_up k1 (by omega) HK.out.1,Sort.permIn_trans _ _ _ _ _ HK.out.2 (Sort.swp_permIn _ _ _ _ _ k1 (by omega) (by omega) (by omega) (by omega))⟩
          go_wp2_with fail
          obtain ⟨p,hp⟩:∃ p,p=k:=⟨_,rfl⟩
          obtain ⟨q,hq⟩:∃ q,q=k+1:=⟨_,rfl⟩
          have ea:((k:Int)).toNat=p:=by omega
          have pa:(0:Int)≤(k:Int):=by omega
          have ba:(k:Int) < (N:Int):=by omega
          have ra:IntKind.i64.wrap ((k:Int))=(k:Int):=by rw [IntKind.wrap_i64];omega
          have ec:((k:Int)+1).toNat=q:=by omega
          have pc:(0:Int)≤(k:Int)+1:=by omega
          have bc:(k:Int)+1 < (N:Int):=by omega
          have rc:IntKind.i64.wrap ((k:Int)+1)=(k:Int)+1:=by rw [IntKind.wrap_i64];omega
          obtain ⟨x,hx⟩:∃ x,x=dk[p]! := ⟨_,rfl⟩
          obtain ⟨y,hy⟩:∃ x,x=dk[q]! := ⟨_,rfl⟩
          have S2:Hid (SW encG w0 blk off (swp dk (k) (k+1)) ((wr.setCell ⟨blk,off+p,none⟩ (encG y)).setCell ⟨blk,off+q,none⟩ (encG x)).drew):=by
            rw [hx,hy,hp,hq]
            exact S1.out.swapped R (k) (k+1) (by omega) (by omega)
          have c1:=S1.out.c1 R (by omega) p (by omega)
          have c2:=S1.out.c1 R (by omega) q (by omega)
          have f1:=S1.out.f1 R (by omega) p (by omega)
          have f2:=S1.out.f1 R (by omega) q (by omega)
          obtain ⟨u,c3⟩:=S1.out.c2 R (by omega) p q (by omega) (by omega) (encG y)
          rw [← hx] at c1
          rw [← hy] at c2
          clear S1 hx hy hp hq
          go_big_region
          clear c1 c2 c3 f1 f2
          generalize ((wr.setCell ⟨blk,off+p,none⟩ (encG y)).setCell ⟨blk,off+q,none⟩ (encG x)).drew=w2 at S2 ⊢
          clear ea ec pa ba ra pc bc rc
          go_wp2_with fail
          go_roundw
          case rel=>exact ⟨k+1,_,by go_num,by omega,by omega,HK2,S2⟩
          case measure=>simp [intOf];omega
        · have hki:k+1=i:=by omega
          have hltz:¬ (k:Int) < (i:Int) - 1:=by omega
          have HEND:Hid (PermIn a b d dk∧SortedIn (ltOf cf) a b dk∧Stab (ltOf cf) Rel dk):=Lib.hid (by
            have h:=HF2.out dk (by have:=HK.out.1;rwa [hki] at this)
            exact ⟨HK.out.2,h.1,h.2⟩)
          clear hki
          go_wp2_with fail
          go_end0
          exact ⟨rfl,dk,HEND.out.1,HEND.out.2.1,HEND.out.2.2,S1.out⟩
set_option maxRecDepth 100000 in
set_option maxHeartbeats 4000000 in
theorem sym_right (g:Nat) (cf:Gp→Gp→Int) (hc:Cmps g cf) (eg:∀ args w,(callFunc g args).run Tryz.prog w=.ok (.enter g args) w) (hO:SWO (ltOf cf)) (Rel:Gp→Gp→Prop) (blk off cap N a m b:Nat) (d0 d:Array Gp) (w0 w:World) (R:Row1 encG w0 blk off d0) (hs0:d0.size=N) (hs:d.size=N) (S:SW encG w0 blk off d w)
    (ham:a+1 < m) (hmb:b=m+1) (hb:b≤N) (hN:N≤481) (h1:SortedIn (ltOf cf) a m d) (hst:Stab (ltOf cf) Rel d) :
    Calls Tryz.prog 217 #[.slice (some ⟨blk,off,none⟩) N cap,.int .i64 a,.int .i64 m,.int .i64 b,.func (.func g) #[] #[]] w (Merged cf Rel w0 blk off a b d):=by
  have hcl0:=R.hO.cells
  simp only [Value.cells] at hcl0
  have hst0:=R.hO.store Tryz.prog
  have S0:Hid (SW encG w0 blk off d w):=S
  have HC:=Lib.hid hc
  have HO:=Lib.hid hO
  have HFIN:Hid (∀ (i:Nat) (D:Array Gp),a≤i→i≤m→(i=a∨ltOf cf d[m]! d[i - 1]! = false)→(i=m∨ltOf cf d[m]! d[i]! = true)→Rot i m (m+1) d D→SortedIn (ltOf cf) a b D∧Stab (ltOf cf) Rel D):=
    Lib.hid (fun i D i1 i2 h3 h4 hr=>by rw [hmb];exact ins_right hO i1 i2 (by omega) h1 hst h3 h4 hr)
  have ht:((m:Int) - (a:Int) == 1)=false:=by simp;omega
  have ht2:((b:Int) - (m:Int) == 1)=true:=by simp;omega
  have hma:m+1≤b∧b≤m+1:=by omega
  obtain ⟨hma1,hma2⟩:=hma
  clear S hc h1 hst hmb hO
  go_enter Tryz.func217,Tryz.ntmps217
  go_wp2_with fail
  clear ht ht2
  go_loopw [14,15] (fun iv jv wr=>∃ i j:Nat,iv=.int .i64 i∧jv=.int .i64 j∧a≤i∧i≤j∧j≤m∧Hid (i=a∨ltOf cf d[m]! d[i - 1]! = false)∧Hid (j=m∨ltOf cf d[m]! d[j]! = true)∧Hid (SW encG w0 blk off d wr)) (fun iv jv _=>(intOf jv).toNat - (intOf iv).toNat)
  case atStart=>exact ⟨a,m,rfl,rfl,Nat.le_refl _,by omega,Nat.le_refl _,Lib.hid (Or.inl rfl),Lib.hid (Or.inl rfl),S0⟩
  case round=>
    clear S0
    obtain ⟨i,j,rfl,rfl,i1,ij,j1,HI,HJ,S1⟩:=hrel
    by_cases hlt:i < j
    · have hltz:(i:Int) < (j:Int):=by omega
      obtain ⟨h,hh⟩:∃ h:Nat,((i:Int)+(j:Int)) / 2=(h:Int):=⟨(i+j) / 2,by omega⟩
      have h1:i≤h∧h < j:=by omega
      obtain ⟨h1,h2⟩:=h1
      go_wp2_with fail
      clear hh
      cases hlv:ltOf cf d[m]! d[h]! with
      | false=>
        obtain ⟨x,hx⟩:∃ x,x=d[m]! := ⟨_,rfl⟩
        obtain ⟨y,hy⟩:∃ x,x=d[h]! := ⟨_,rfl⟩
        have c1:=S1.out.c1 R (by omega) (m) (by omega)
        have c2:=S1.out.c1 R (by omega) (h) (by omega)
        rw [← hx] at c1
        rw [← hy] at c2
        have cc:∀ q,Calls Tryz.prog g #[encG x,encG y] (wr.drewN q) fun e w'=>e=.returned (.int .i64 (cf x y))∧w'=wr.drewN q:=fun q=>(HC.out x y _).mono (by rintro e w' ⟨rfl,rfl⟩;exact ⟨rfl,rfl⟩)
        have hv:¬ cf x y < 0:=by rw [hx,hy];exact of_decide_eq_false hlv
        have hd:decide (cf x y < 0)=false:=decide_eq_false hv
        have HLV:=Lib.hid hlv
        clear hx hy hlv
        go_quiet (first | (go_at_fn g;refine Calls.quiet_of_same (cc _)))
        have S2:Hid (SW encG w0 blk off d (wr.drewN nq)):=Lib.hid (S1.out.drewN nq)
        clear c1 c2 cc S1
        generalize wr.drewN nq=w2 at S2 ⊢
        clear nq
        go_wp2_with fail
        go_roundw
        case rel=>exact ⟨h+1,j,by go_num,rfl,by omega,by omega,j1,Lib.hid (Or.inr (by rw [show h+1 - 1=h by omega];exact HLV.out)),HJ,S2⟩
        case measure=>simp [intOf];omega
      | true=>
        obtain ⟨x,hx⟩:∃ x,x=d[m]! := ⟨_,rfl⟩
        obtain ⟨y,hy⟩:∃ x,x=d[h]! := ⟨_,rfl⟩
        have c1:=S1.out.c1 R (by omega) (m) (by omega)
        have c2:=S1.out.c1 R (by omega) (h) (by omega)
        rw [← hx] at c1
        rw [← hy] at c2
        have cc:∀ q,Calls Tryz.prog g #[encG x,encG y] (wr.drewN q) fun e w'=>e=.returned (.int .i64 (cf x y))∧w'=wr.drewN q:=fun q=>(HC.out x y _).mono (by rintro e w' ⟨rfl,rfl⟩;exact ⟨rfl,rfl⟩)
        have hv:cf x y < 0:=by rw [hx,hy];exact of_decide_eq_true hlv
        have hd:decide (cf x y < 0)=true:=decide_eq_true hv
        have HLV:=Lib.hid hlv
        clear hx hy hlv
        go_quiet (first | (go_at_fn g;refine Calls.quiet_of_same (cc _)))
        have S2:Hid (SW encG w0 blk off d (wr.drewN nq)):=Lib.hid (S1.out.drewN nq)
        clear c1 c2 cc S1
        generalize wr.drewN nq=w2 at S2 ⊢
        clear nq
        go_wp2_with fail
        go_roundw
        case rel=>exact ⟨i,h,rfl,rfl,i1,h1,by omega,HI,Lib.hid (Or.inr HLV.out),S2⟩
        case measure=>simp [intOf];omega
    · have hij:i=j:=by omega
      subst hij
      have HF2:Hid (∀ D,Rot i m (m+1) d D→SortedIn (ltOf cf) a b D∧Stab (ltOf cf) Rel D):=Lib.hid (fun D hr=>HFIN.out i D i1 j1 HI.out HJ.out hr)
      have HK0:Hid (Rot m m (m+1) d d∧PermIn a b d d):=Lib.hid ⟨(rot_none d m (m+1) (by omega)).1,Sort.permIn_refl _ _ _⟩
      clear HI HJ HFIN hlt ij
      go_wp2_with fail
      go_loopw [17] (fun kv wr=>∃ (k:Nat) (dk:Array Gp),kv=.int .i64 k∧i≤k∧k≤m∧Hid (Rot k m (m+1) d dk∧PermIn a b d dk)∧Hid (SW encG w0 blk off dk wr)) (fun kv _=>(intOf kv).toNat)
      case atStart=>exact ⟨m,d,rfl,by omega,Nat.le_refl _,HK0,S1⟩
      case round=>
        clear S1 HK0
        obtain ⟨k,dk,rfl,k1,k2,HK,S1⟩:=hrel
        have hz:=HK.out.1.1
        by_cases hlt:i < k
        · obtain ⟨kp,rfl⟩:∃ kp,k=kp+1:=⟨k - 1,by omega⟩
          have hltz:(i:Int) < (kp:Int)+1:=by omega
          have HK2:Hid (Rot kp m (m+1) d (swp dk (kp+1) kp)∧PermIn a b d (swp dk (kp+1) kp)):=Lib.hid ⟨rot_down k2 (by omega) HK.out.1,Sort.permIn_trans _ _ _ _ _ HK.out.2 (Sort.swp_permIn _ _ _ _ _ (by omega) (by omega) (by omega) (by omega) (by omega))⟩
          go_wp2_with fail
          obtain ⟨p,hp⟩:∃ p,p=kp+1:=⟨_,rfl⟩
          obtain ⟨q,hq⟩:∃ q,q=kp:=⟨_,rfl⟩
          have ea:((kp:Int)+1).toNat=p:=by omega
          have pa:(0:Int)≤(kp:Int)+1:=by omega
          have ba:(kp:Int)+1 < (N:Int):=by omega
          have ra:IntKind.i64.wrap ((kp:Int)+1)=(kp:Int)+1:=by rw [IntKind.wrap_i64];omega
          have ec:((kp:Int)).toNat=q:=by omega
          have pc:(0:Int)≤(kp:Int):=by omega
          have bc:(kp:Int) < (N:Int):=by omega
          have rc:IntKind.i64.wrap ((kp:Int))=(kp:Int):=by rw [IntKind.wrap_i64];omega
          obtain ⟨x,hx⟩:∃ x,x=dk[p]! := ⟨_,rfl⟩
          obtain ⟨y,hy⟩:∃ x,x=dk[q]! := ⟨_,rfl⟩
          have S2:Hid (SW encG w0 blk off (swp dk (kp+1) (kp)) ((wr.setCell ⟨blk,off+p,none⟩ (encG y)).setCell ⟨blk,off+q,none⟩ (encG x)).drew):=by
            rw [hx,hy,hp,hq]
            exact S1.out.swapped R (kp+1) (kp) (by omega) (by omega)
          have c1:=S1.out.c1 R (by omega) p (by omega)
          have c2:=S1.out.c1 R (by omega) q (by omega)
          have f1:=S1.out.f1 R (by omega) p (by omega)
          have f2:=S1.out.f1 R (by omega) q (by omega)
          obtain ⟨u,c3⟩:=S1.out.c2 R (by omega) p q (by omega) (by omega) (encG y)
          rw [← hx] at c1
          rw [← hy] at c2
          clear S1 hx hy hp hq
          go_big_region
          clear c1 c2 c3 f1 f2
          generalize ((wr.setCell ⟨blk,off+p,none⟩ (encG y)).setCell ⟨blk,off+q,none⟩ (encG x)).drew=w2 at S2 ⊢
          clear ea ec pa ba ra pc bc rc
          go_wp2_with fail
          go_roundw
          case rel=>exact ⟨kp,_,by go_num,by omega,by omega,HK2,S2⟩
          case measure=>simp [intOf]
        · have hki:k=i:=by omega
          have hltz:¬ (i:Int) < (k:Int):=by omega
          have HEND:Hid (PermIn a b d dk∧SortedIn (ltOf cf) a b dk∧Stab (ltOf cf) Rel dk):=Lib.hid (by
            have h:=HF2.out dk (by have:=HK.out.1;rwa [hki] at this)
            exact ⟨HK.out.2,h.1,h.2⟩)
          clear hki
          go_wp2_with fail
          go_end0
          exact ⟨rfl,dk,HEND.out.1,HEND.out.2.1,HEND.out.2.2,S1.out⟩
end Go.Proofs.YtcefmpnijjcekaaGreatDoor
namespace Go.Proofs.YtcefmpnijjcekaaGreatDoor
open Go.RowKit
open Go.Sort (swp SWO PermIn SortedIn size_swp insertionSort)
def Ends (a m b mid lo hi:Nat):Prop:=(lo=a∧hi=m∧m≤mid)∨(lo+b=mid+m∧hi=mid∧mid < m)
set_option maxRecDepth 100000 in
set_option maxHeartbeats 4000000 in
theorem sym_gen (g:Nat) (cf:Gp→Gp→Int) (hc:Cmps g cf) (eg:∀ args w,(callFunc g args).run Tryz.prog w=.ok (.enter g args) w) (hO:SWO (ltOf cf)) (Rel:Gp→Gp→Prop) (blk off cap N a m b:Nat) (d0 d:Array Gp) (w0 w:World) (R:Row1 encG w0 blk off d0) (hs0:d0.size=N) (hs:d.size=N) (S:SW encG w0 blk off d w)
    (ham:a+1 < m) (hmb:m+1 < b) (hb:b≤N) (hN:N≤481) (h1:SortedIn (ltOf cf) a m d) (h2:SortedIn (ltOf cf) m b d) (hst:Stab (ltOf cf) Rel d)
    (IH:∀ (a' m' b':Nat) (d':Array Gp) (w':World),b' - a' < b - a→a' < m'→m' < b'→b'≤N→d'.size=N→SW encG w0 blk off d' w'→SortedIn (ltOf cf) a' m' d'→SortedIn (ltOf cf) m' b' d'→Stab (ltOf cf) Rel d'→Calls Tryz.prog 217 #[.slice (some ⟨blk,off,none⟩) N cap,.int .i64 a',.int .i64 m',.int .i64 b',.func (.func g) #[] #[]] w' (Merged cf Rel w0 blk off a' b' d')) :
    Calls Tryz.prog 217 #[.slice (some ⟨blk,off,none⟩) N cap,.int .i64 a,.int .i64 m,.int .i64 b,.func (.func g) #[] #[]] w (Merged cf Rel w0 blk off a b d):=by
  have hcl0:=R.hO.cells
  simp only [Value.cells] at hcl0
  have hst0:=R.hO.store Tryz.prog
  have S0:Hid (SW encG w0 blk off d w):=S
  have HC:=Lib.hid hc
  have HO:=Lib.hid hO
  have ht:((m:Int) - (a:Int) == 1)=false:=by simp;omega
  have ht2:((b:Int) - (m:Int) == 1)=false:=by simp;omega
  obtain ⟨mid,hmid⟩:∃ mid:Nat,((a:Int)+(b:Int)) / 2=(mid:Int):=⟨(a+b) / 2,by omega⟩
  have hmd:a+b≤2 * mid+1∧2 * mid≤a+b:=by omega
  obtain ⟨hmd1,hmd2⟩:=hmd
  have HIH:=Lib.hid IH
  have HHALF:Hid (∀ (lo hi s e:Nat),Ends a m b mid lo hi→lo≤s→s≤hi→s+e=mid+m→(s=lo∨ltOf cf d[e]! d[s - 1]! = false)→(s=hi∨ltOf cf d[e - 1]! d[s]! = true)→∀ D,Rot s m e d D→Halved (ltOf cf) Rel a s mid e b D):=
    Lib.hid (fun lo hi s e hE h3 h4 h5 h6 h7 D hr=>halved hO (d:=d) (by omega) h5 (by rcases hE with hE | hE <;> omega) (by rcases hE with hE | hE <;> omega) (by rcases hE with hE | hE <;> omega) (by rcases hE with hE | hE <;> omega) (by rcases hE with hE | hE <;> omega) (by rcases hE with hE | hE <;> omega) h1 h2 hst
      (fun f1 f2 => by rcases h6 with h6 | h6;· rcases hE with hE | hE <;> omega
                       exact h6) (fun f1 f2 => by rcases h7 with h7 | h7;· rcases hE with hE | hE <;> omega
                                                  exact h7) hr)
  have HROT:Hid (∀ (s e:Nat) (wr:World),SW encG w0 blk off d wr→s < m→m < e→e≤N→Calls Tryz.prog 242 #[.slice (some ⟨blk,off,none⟩) N cap,.int .i64 s,.int .i64 m,.int .i64 e,.func (.func g) #[] #[]] wr fun e' w'=>e'=.returned (.tuple #[])∧∃ D,Rot s m e d D∧PermIn s e d D∧SW encG w0 blk off D w'):=
    Lib.hid (fun s e wr hS h3 h4 h5=>rotate_walk g blk off cap N s m e d0 d w0 wr R hs0 hs hS h3 h4 h5 hN)
  clear S hc h1 h2 hst hO IH
  go_enter Tryz.func217,Tryz.ntmps217
  go_upto_if 140 with fail
  clear ht ht2 hmid
  go_cut [20,21] from 25 (fun s20 s21 wx=>∃ lo hi:Nat,s20=.int .i64 lo∧s21=.int .i64 hi∧Hid (Ends a m b mid lo hi)∧wx=w)
  case first=>
    by_cases hgt:mid < m
    · have z1:(mid:Int) < (m:Int):=by omega
      go_wp2_with fail
      go_meet
      case rel=>exact ⟨mid+m - b,mid,by congr 1;omega,rfl,Lib.hid (Or.inr ⟨by omega,rfl,hgt⟩),rfl⟩
    · have z1:¬ (mid:Int) < (m:Int):=by omega
      go_wp2_with fail
      go_meet
      case rel=>exact ⟨a,m,rfl,rfl,Lib.hid (Or.inl ⟨rfl,rfl,by omega⟩),rfl⟩
  case rest=>
    obtain ⟨lo,hi,rfl,rfl,HE,rfl⟩:=hcut
    have hlh:lo≤hi∧hi≤m∧hi≤mid∧a≤lo∧mid+m≤lo+b:=by rcases HE.out with h | h <;> omega
    obtain ⟨hlh1,hlh2,hlh3,hlh4,hlh5⟩:=hlh
    go_wp2_with fail
    go_loopw [20,21] (fun sv rv wr=>∃ s r:Nat,sv=.int .i64 s∧rv=.int .i64 r∧lo≤s∧s≤r∧r≤hi∧Hid (s=lo∨ltOf cf d[mid+m - s]! d[s - 1]! = false)∧Hid (r=hi∨ltOf cf d[mid+m - 1 - r]! d[r]! = true)∧Hid (SW encG w0 blk off d wr)) (fun sv rv _=>(intOf rv).toNat - (intOf sv).toNat)
    case atStart=>exact ⟨lo,hi,rfl,rfl,Nat.le_refl _,hlh1,Nat.le_refl _,Lib.hid (Or.inl rfl),Lib.hid (Or.inl rfl),S0⟩
    case round=>
      clear S0
      obtain ⟨s,r,rfl,rfl,s1,sr,r1,HI,HJ,S1⟩:=hrel
      by_cases hlt:s < r
      · have hltz:(s:Int) < (r:Int):=by omega
        obtain ⟨c,hh⟩:∃ c:Nat,((s:Int)+(r:Int)) / 2=(c:Int):=⟨(s+r) / 2,by omega⟩
        have h1:s≤c∧c < r:=by omega
        obtain ⟨h1,h2⟩:=h1
        go_wp2_with fail
        clear hh
        obtain ⟨p,hp⟩:∃ p,p=mid+m - 1 - c:=⟨_,rfl⟩
        have ea:((mid:Int)+(m:Int) - 1 - (c:Int)).toNat=p:=by omega
        have pa:(0:Int)≤(mid:Int)+(m:Int) - 1 - (c:Int):=by omega
        have ba:(mid:Int)+(m:Int) - 1 - (c:Int) < (N:Int):=by omega
        have ra:IntKind.i64.wrap ((mid:Int)+(m:Int) - 1 - (c:Int))=(mid:Int)+(m:Int) - 1 - (c:Int):=by rw [IntKind.wrap_i64];omega
        have HP:=Lib.hid hp
        have hpn:p < N:=by omega
        clear hp
        cases hlv:ltOf cf d[p]! d[c]! with
        | false=>
          obtain ⟨x,hx⟩:∃ x,x=d[p]! := ⟨_,rfl⟩
          obtain ⟨y,hy⟩:∃ x,x=d[c]! := ⟨_,rfl⟩
          have c1:=S1.out.c1 R (by omega) (p) (by omega)
          have c2:=S1.out.c1 R (by omega) (c) (by omega)
          rw [← hx] at c1
          rw [← hy] at c2
          have cc:∀ q,Calls Tryz.prog g #[encG x,encG y] (wr.drewN q) fun e w'=>e=.returned (.int .i64 (cf x y))∧w'=wr.drewN q:=fun q=>(HC.out x y _).mono (by rintro e w' ⟨rfl,rfl⟩;exact ⟨rfl,rfl⟩)
          have hv:¬ cf x y < 0:=by rw [hx,hy];exact of_decide_eq_false hlv
          have hd:decide (cf x y < 0)=false:=decide_eq_false hv
          have HLV:=Lib.hid hlv
          clear hx hy hlv
          go_quiet (first | (go_at_fn g;refine Calls.quiet_of_same (cc _)))
          have S2:Hid (SW encG w0 blk off d (wr.drewN nq)):=Lib.hid (S1.out.drewN nq)
          clear c1 c2 cc S1
          generalize wr.drewN nq=w2 at S2 ⊢
          clear nq
          clear ea pa ba ra
          go_wp2_with fail
          go_roundw
          case rel=>exact ⟨c+1,r,by go_num,rfl,by omega,by omega,r1,Lib.hid (Or.inr (by rw [show c+1 - 1=c by omega,show mid+m - (c+1)=p by rw [HP.out];omega];exact HLV.out)),HJ,S2⟩
          case measure=>simp [intOf];omega
        | true=>
          obtain ⟨x,hx⟩:∃ x,x=d[p]! := ⟨_,rfl⟩
          obtain ⟨y,hy⟩:∃ x,x=d[c]! := ⟨_,rfl⟩
          have c1:=S1.out.c1 R (by omega) (p) (by omega)
          have c2:=S1.out.c1 R (by omega) (c) (by omega)
          rw [← hx] at c1
          rw [← hy] at c2
          have cc:∀ q,Calls Tryz.prog g #[encG x,encG y] (wr.drewN q) fun e w'=>e=.returned (.int .i64 (cf x y))∧w'=wr.drewN q:=fun q=>(HC.out x y _).mono (by rintro e w' ⟨rfl,rfl⟩;exact ⟨rfl,rfl⟩)
          have hv:cf x y < 0:=by rw [hx,hy];exact of_decide_eq_true hlv
          have hd:decide (cf x y < 0)=true:=decide_eq_true hv
          have HLV:=Lib.hid hlv
          clear hx hy hlv
          go_quiet (first | (go_at_fn g;refine Calls.quiet_of_same (cc _)))
          have S2:Hid (SW encG w0 blk off d (wr.drewN nq)):=Lib.hid (S1.out.drewN nq)
          clear c1 c2 cc S1
          generalize wr.drewN nq=w2 at S2 ⊢
          clear nq
          clear ea pa ba ra
          go_wp2_with fail
          go_roundw
          case rel=>exact ⟨s,c,rfl,rfl,s1,h1,by omega,HI,Lib.hid (Or.inr (by rw [← HP.out];exact HLV.out)),S2⟩
          case measure=>simp [intOf];omega
      · have hsr:s=r:=by omega
        subst hsr
        obtain ⟨e,he⟩:∃ e:Nat,(mid:Int)+(m:Int) - (s:Int)=(e:Int):=⟨mid+m - s,by omega⟩
        have e1:s+e=mid+m:=by omega
        have HF:Hid (∀ D,Rot s m e d D→Halved (ltOf cf) Rel a s mid e b D):=Lib.hid (HHALF.out lo hi s e HE.out s1 r1 e1 (by rw [show e=mid+m - s by omega];exact HI.out) (by rw [show e - 1=mid+m - 1 - s by omega];exact HJ.out))
        have e2:a≤s∧s≤m∧s≤mid∧m≤e∧mid≤e∧e≤b:=by rcases HE.out with h | h <;> omega
        obtain ⟨e2,e3,e4,e5,e6,e7⟩:=e2
        clear HI HJ HHALF HE hlt sr s1 r1 hlh1 hlh2 hlh3 hlh4 hlh5
        go_upto_region 39 with fail
        go_cut [185] from 25 (fun sb wx=>sb=.bool (decide (s < m)&&decide (m < e))∧wx=wr)
        case first=>
          by_cases hA:s < m
          · have zA:(s:Int) < (m:Int):=by omega
            by_cases hB:m < e
            · have zB:(m:Int) < (e:Int):=by omega
              go_wp2_with fail
              go_meet
              case rel=>exact ⟨by rw [decide_eq_true hA,decide_eq_true hB];rfl,rfl⟩
            · have zB:¬ (m:Int) < (e:Int):=by omega
              go_wp2_with fail
              go_meet
              case rel=>exact ⟨by rw [decide_eq_false hB,Bool.and_false],rfl⟩
          · have zA:¬ (s:Int) < (m:Int):=by omega
            go_wp2_with fail
            go_meet
            case rel=>exact ⟨by rw [decide_eq_false hA];rfl,rfl⟩
        case rest=>
          as_aux_lemma=>
            obtain ⟨rfl,rfl⟩:=hcut
            clear he
            go_upto_if 185 with fail
            go_cut [] from 25 (fun wx=>∃ D,Hid (Halved (ltOf cf) Rel a s mid e b D∧PermIn a b d D)∧Hid (SW encG w0 blk off D wx))
            case first=>
              cases hbb:(decide (s < m)&&decide (m < e)) with
              | true=>
                simp only [Bool.and_eq_true,decide_eq_true_eq] at hbb
                have cR:=HROT.out s e _ S1.out hbb.1 hbb.2 (by omega)
                clear hbb
                go_wp2_with fail
                refine cR.mono ?_
                rintro e' w2 ⟨rfl,D,hr,hpm,hS2⟩
                have HD:Hid (Halved (ltOf cf) Rel a s mid e b D∧PermIn a b d D):=Lib.hid ⟨HF.out D hr,Sort.permIn_mono _ _ _ _ _ _ e2 e7 (by omega) hpm⟩
                have S2:=Lib.hid hS2
                clear cR hr hpm hS2
                go_wp2_with fail
                go_meet
                case rel=>exact ⟨D,HD,S2⟩
              | false=>
                have HD:Hid (Halved (ltOf cf) Rel a s mid e b d∧PermIn a b d d):=Lib.hid ⟨HF.out d (by
                  simp only [Bool.and_eq_false_iff,decide_eq_false_iff_not] at hbb
                  rcases hbb with h | h
                  · rw [show s=m by omega];exact (rot_none d m e (by omega)).1
                  · rw [show e=m by omega];exact (rot_none d s m (by omega)).2),Sort.permIn_refl _ _ _⟩
                clear hbb
                go_wp2_with fail
                go_meet
                case rel=>exact ⟨d,HD,S1⟩
            case rest=>
              as_aux_lemma=>
                obtain ⟨D,HD,S2⟩:=hcut
                clear S1 HF HROT
                go_upto_region 41 with fail
                go_cut [199] from 25 (fun sb wx=>sb=.bool (decide (a < s)&&decide (s < mid))∧wx=wc)
                case first=>
                  by_cases hA:a < s
                  · have zA:(a:Int) < (s:Int):=by omega
                    by_cases hB:s < mid
                    · have zB:(s:Int) < (mid:Int):=by omega
                      go_wp2_with fail
                      go_meet
                      case rel=>exact ⟨by rw [decide_eq_true hA,decide_eq_true hB];rfl,rfl⟩
                    · have zB:¬ (s:Int) < (mid:Int):=by omega
                      go_wp2_with fail
                      go_meet
                      case rel=>exact ⟨by rw [decide_eq_false hB,Bool.and_false],rfl⟩
                  · have zA:¬ (a:Int) < (s:Int):=by omega
                    go_wp2_with fail
                    go_meet
                    case rel=>exact ⟨by rw [decide_eq_false hA];rfl,rfl⟩
                case rest=>
                  as_aux_lemma=>
                    obtain ⟨rfl,rfl⟩:=hcut
                    go_upto_if 199 with fail
                    go_cut [] from 25 (fun wx=>∃ D2,Hid (PermIn a mid D D2∧SortedIn (ltOf cf) a mid D2∧Stab (ltOf cf) Rel D2)∧Hid (SW encG w0 blk off D2 wx))
                    case first=>
                      cases hbb:(decide (a < s)&&decide (s < mid)) with
                      | true=>
                        simp only [Bool.and_eq_true,decide_eq_true_eq] at hbb
                        have cM:=HIH.out a s mid D _ (by omega) hbb.1 hbb.2 (by omega) (by rw [HD.out.2.1];exact hs) S2.out HD.out.1.2.1 HD.out.1.2.2.1 HD.out.1.1
                        clear hbb
                        go_wp2_with fail
                        refine cM.mono ?_
                        rintro e' w2 ⟨rfl,D2,p2,o2,t2,hS3⟩
                        have HD2:Hid (PermIn a mid D D2∧SortedIn (ltOf cf) a mid D2∧Stab (ltOf cf) Rel D2):=Lib.hid ⟨p2,o2,t2⟩
                        have S3:=Lib.hid hS3
                        clear cM p2 o2 t2 hS3
                        go_wp2_with fail
                        go_meet
                        case rel=>exact ⟨D2,HD2,S3⟩
                      | false=>
                        have HD2:Hid (PermIn a mid D D∧SortedIn (ltOf cf) a mid D∧Stab (ltOf cf) Rel D):=Lib.hid ⟨Sort.permIn_refl _ _ _,by
                          simp only [Bool.and_eq_false_iff,decide_eq_false_iff_not] at hbb
                          rcases hbb with h | h
                          · have h':=HD.out.1.2.2.1
                            rwa [show s=a by omega] at h'
                          · have h':=HD.out.1.2.1
                            rwa [show s=mid by omega] at h',HD.out.1.1⟩
                        clear hbb
                        go_wp2_with fail
                        go_meet
                        case rel=>exact ⟨D,HD2,S2⟩
                    case rest=>
                      as_aux_lemma=>
                        obtain ⟨D2,HD2,S3⟩:=hcut
                        clear S2
                        go_upto_region 43 with fail
                        go_cut [213] from 25 (fun sb wx=>sb=.bool (decide (mid < e)&&decide (e < b))∧wx=wc)
                        case first=>
                          by_cases hA:mid < e
                          · have zA:(mid:Int) < (e:Int):=by omega
                            by_cases hB:e < b
                            · have zB:(e:Int) < (b:Int):=by omega
                              go_wp2_with fail
                              go_meet
                              case rel=>exact ⟨by rw [decide_eq_true hA,decide_eq_true hB];rfl,rfl⟩
                            · have zB:¬ (e:Int) < (b:Int):=by omega
                              go_wp2_with fail
                              go_meet
                              case rel=>exact ⟨by rw [decide_eq_false hB,Bool.and_false],rfl⟩
                          · have zA:¬ (mid:Int) < (e:Int):=by omega
                            go_wp2_with fail
                            go_meet
                            case rel=>exact ⟨by rw [decide_eq_false hA];rfl,rfl⟩
                        case rest=>
                          as_aux_lemma=>
                            obtain ⟨rfl,rfl⟩:=hcut
                            have HS2:Hid (SortedIn (ltOf cf) mid e D2∧SortedIn (ltOf cf) e b D2):=Lib.hid ⟨sorted_same HD.out.1.2.2.2.1 (fun k k1 k2=>HD2.out.1.2.1 k (Or.inr k1)),sorted_same HD.out.1.2.2.2.2.1 (fun k k1 k2=>HD2.out.1.2.1 k (Or.inr (by omega)))⟩
                            have hz2:D2.size=N:=by rw [HD2.out.1.1,HD.out.2.1];exact hs
                            have HG:Hid (∀ D3,PermIn mid b D2 D3→SortedIn (ltOf cf) mid b D3→PermIn a b d D3∧SortedIn (ltOf cf) a b D3):=Lib.hid (fun D3 p3 o3=>by
                              have h:=glue_halves (by omega) (by omega) (by rw [HD.out.2.1];omega) HD.out.1.2.2.2.2.2 HD2.out.1 HD2.out.2.1 p3 o3
                              exact ⟨Sort.permIn_trans _ _ _ _ _ HD.out.2 h.1,h.2⟩)
                            cases hbb:(decide (mid < e)&&decide (e < b)) with
                            | true=>
                              simp only [Bool.and_eq_true,decide_eq_true_eq] at hbb
                              have cM:=HIH.out mid e b D2 _ (by omega) hbb.1 hbb.2 hb hz2 S3.out HS2.out.1 HS2.out.2 HD2.out.2.2
                              clear hbb hz2
                              go_wp2_with fail
                              refine cM.mono ?_
                              rintro e' w2 ⟨rfl,D3,p3,o3,t3,hS4⟩
                              have HEND:Hid ((PermIn a b d D3∧SortedIn (ltOf cf) a b D3)∧Stab (ltOf cf) Rel D3∧SW encG w0 blk off D3 w2):=Lib.hid ⟨HG.out D3 p3 o3,t3,hS4⟩
                              clear cM p3 o3 t3 hS4
                              go_wp2_with fail
                              go_end0
                              exact ⟨rfl,D3,HEND.out.1.1,HEND.out.1.2,HEND.out.2.1,HEND.out.2.2⟩
                            | false=>
                              have HEND:Hid (PermIn a b d D2∧SortedIn (ltOf cf) a b D2):=Lib.hid (HG.out D2 (Sort.permIn_refl _ _ _) (by
                                simp only [Bool.and_eq_false_iff,decide_eq_false_iff_not] at hbb
                                rcases hbb with h | h
                                · have h':=HS2.out.2
                                  rwa [show e=mid by omega] at h'
                                · have h':=HS2.out.1
                                  rwa [show e=b by omega] at h'))
                              clear hbb hz2
                              go_wp2_with fail
                              go_end0
                              exact ⟨rfl,D2,HEND.out.1,HEND.out.2,HD2.out.2.2,S3.out⟩
theorem sym_any (g:Nat) (cf:Gp→Gp→Int) (hc:Cmps g cf) (eg:∀ args w,(callFunc g args).run Tryz.prog w=.ok (.enter g args) w) (hO:SWO (ltOf cf)) (Rel:Gp→Gp→Prop) (blk off cap N:Nat) (d0:Array Gp) (w0:World) (R:Row1 encG w0 blk off d0) (hs0:d0.size=N) (hN:N≤481) :
    ∀ (k a m b:Nat) (d:Array Gp) (w:World),b - a≤k→a < m→m < b→b≤N→d.size=N→SW encG w0 blk off d w→SortedIn (ltOf cf) a m d→SortedIn (ltOf cf) m b d→Stab (ltOf cf) Rel d→
      Calls Tryz.prog 217 #[.slice (some ⟨blk,off,none⟩) N cap,.int .i64 a,.int .i64 m,.int .i64 b,.func (.func g) #[] #[]] w (Merged cf Rel w0 blk off a b d)
  | 0,a,m,b,d,w,hk,ham,hmb,_,_,_,_,_,_=>by omega
  | k+1,a,m,b,d,w,hk,ham,hmb,hb,hs,S,h1,h2,hst=>by
    by_cases c1:m=a+1
    · exact sym_left g cf hc eg hO Rel blk off cap N a m b d0 d w0 w R hs0 hs S c1 hmb hb hN h2 hst
    · by_cases c2:b=m+1
      · exact sym_right g cf hc eg hO Rel blk off cap N a m b d0 d w0 w R hs0 hs S (by omega) c2 hb hN h1 hst
      · exact sym_gen g cf hc eg hO Rel blk off cap N a m b d0 d w0 w R hs0 hs S (by omega) (by omega) hb hN h1 h2 hst
          (fun a' m' b' d' w' q1 q2 q3 q4 q5 q6 q7 q8 q9=>sym_any g cf hc eg hO Rel blk off cap N d0 w0 R hs0 hN k a' m' b' d' w' (by omega) q2 q3 q4 q5 q6 q7 q8 q9)
end Go.Proofs.YtcefmpnijjcekaaGreatDoor
