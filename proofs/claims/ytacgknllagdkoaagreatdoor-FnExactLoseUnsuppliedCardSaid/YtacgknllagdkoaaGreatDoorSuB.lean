/-
 A breadth first search with a payload: each hex that is reached bears what its forerunner bore, and one step more; ranks in the queue never fall, and each rank is the least number of hexes of a way. No program is looked into.
-/
import Derived.Test.YtacgknllagdkoaaGreatDoorQa
import Derived.Test.YtacgknllagdkoaaGreatDoorQa
namespace Go.Proofs.YtacgknllagdkoaaGreatDoor
open Go.RowKit
/-- A way of n hexes from a source to k. -/
inductive WayN (nb:Nat→List Nat) (ok:Nat→Bool) (src:List Nat):Nat→Nat→Prop
 | src {k:Nat}:k ∈ src→ok k=true→WayN nb ok src k 1
 | step {x k n:Nat}:WayN nb ok src x n→k ∈ nb x→ok k=true→WayN nb ok src k (n+1)
theorem WayN.ok {nb:Nat→List Nat} {ok:Nat→Bool} {src:List Nat} {k n:Nat} (h:WayN nb ok src k n):ok k=true:=by
 cases h <;> assumption
theorem WayN.of {nb nb':Nat→List Nat} {ok ok':Nat→Bool} {src src':List Nat} (hn:∀ x k,ok x=true→k ∈ nb x→ok k=true→k ∈ nb' x) (ho:∀ k,ok k=true→ok' k=true) (hs:∀ k ∈ src,ok k=true→k ∈ src') {k n:Nat} (h:WayN nb ok src k n):WayN nb' ok' src' k n:=by
 induction h with
 | src hk hok=>exact .src (hs _ hk hok) (ho _ hok)
 | step hx hk hok ih=>exact .step ih (hn _ _ hx.ok hk hok) (ho _ hok)
section
variable {α:Type} (nx:α→Nat→α) (ok:Nat→Bool)
/-- A candidate k behind p. -/
def bfAdd (p:α) (Q:List (Nat × α)) (k:Nat):List (Nat × α):=if (Q.any (fun e=>e.1 == k))=true then Q else if ok k=true then Q++[(k,nx p k)] else Q
def bfExt (p:α) (Q:List (Nat × α)) (ks:List Nat):List (Nat × α):=ks.foldl (bfAdd nx ok p) Q
variable (nb:Nat→List Nat) (p0:α) (src:List Nat)
/-- The queue behind n rounds. -/
def bfQ:Nat→List (Nat × α)
 | 0=>bfExt nx ok p0 [] src
 | n+1=>match (bfQ n)[n]? with | none=>bfQ n | some e=>bfExt nx ok e.2 (bfQ n) (nb e.1)
end
section
variable {α:Type} {nx:α→Nat→α} {ok:Nat→Bool}
theorem bfAdd_prefix (p:α) (Q:List (Nat × α)) (k:Nat):∃ t,bfAdd nx ok p Q k=Q++t:=by
 unfold bfAdd
 split
 ·exact⟨[],by simp⟩
 ·split
  ·exact⟨_,rfl⟩
  ·exact⟨[],by simp⟩
theorem bfExt_prefix (p:α):∀ (ks:List Nat) (Q:List (Nat × α)),∃ t,bfExt nx ok p Q ks=Q++t
 | [],Q=>⟨[],by simp [bfExt]⟩
 | k :: ks,Q=>by
  obtain⟨t,h⟩:=bfAdd_prefix (nx:=nx) (ok:=ok) p Q k
  obtain⟨t',h'⟩:=bfExt_prefix p ks (bfAdd nx ok p Q k)
  refine⟨t++t',?_⟩
  show bfExt nx ok p (bfAdd nx ok p Q k) ks=_
  rw [h',h,List.append_assoc]
theorem bfExt_snoc (p:α) (Q:List (Nat × α)) (ks:List Nat) (k:Nat):bfExt nx ok p Q (ks++[k])=bfAdd nx ok p (bfExt nx ok p Q ks) k:=by
 simp [bfExt,List.foldl_append]
theorem bfAdd_mem {p:α} {Q:List (Nat × α)} {k:Nat} {e:Nat × α} (h:e ∈ bfAdd nx ok p Q k):e ∈ Q∨(e=(k,nx p k)∧ok k=true∧∀ x ∈ Q,x.1 ≠ k):=by
 unfold bfAdd at h
 split at h
 ·exact .inl h
 ·rename_i hn
  split at h
  ·rename_i hok
   rcases List.mem_append.1 h with h | h
   ·exact .inl h
   ·refine .inr ⟨by simpa using h,hok,fun x hx hk=>hn (List.any_eq_true.2 ⟨x,hx,by simp [hk]⟩)⟩
  ·exact .inl h
theorem bfAdd_has (p:α) (Q:List (Nat × α)) (k:Nat) (hok:ok k=true):∃ e ∈ bfAdd nx ok p Q k,e.1=k∧(e ∈ Q∨e.2=nx p k):=by
 unfold bfAdd
 split
 ·rename_i h
  obtain⟨e,he,hk⟩:=List.any_eq_true.1 h
  exact⟨e,he,by simpa using hk,.inl he⟩
 ·exact⟨(k,nx p k),by simp,rfl,.inr rfl⟩
theorem bfExt_mem (p:α):∀ (ks:List Nat) (Q:List (Nat × α)) (e:Nat × α),e ∈ bfExt nx ok p Q ks→e ∈ Q∨(e.1 ∈ ks∧e.2=nx p e.1∧ok e.1=true)
 | [],Q,e,h=>.inl h
 | k :: ks,Q,e,h=>by
  rcases bfExt_mem p ks (bfAdd nx ok p Q k) e h with h | ⟨a,b,c⟩
  ·rcases bfAdd_mem h with h | ⟨rfl,h,_⟩
   ·exact .inl h
   ·exact .inr ⟨by simp,rfl,h⟩
  ·exact .inr ⟨List.mem_cons_of_mem _ a,b,c⟩
theorem bfExt_has (p:α):∀ (ks:List Nat) (Q:List (Nat × α)) (k:Nat),k ∈ ks→ok k=true→∃ e ∈ bfExt nx ok p Q ks,e.1=k∧(e ∈ Q∨e.2=nx p k)
 | [],_,_,h,_=>by cases h
 | j :: ks,Q,k,h,hok=>by
  by_cases hj:k=j
  ·subst hj
   obtain⟨e,he,h1,h2⟩:=bfAdd_has (nx:=nx) p Q k hok
   obtain⟨t,ht⟩:=bfExt_prefix (nx:=nx) (ok:=ok) p ks (bfAdd nx ok p Q k)
   refine⟨e,?_,h1,h2⟩
   show e ∈ bfExt nx ok p (bfAdd nx ok p Q k) ks
   rw [ht]
   exact List.mem_append_left _ he
  ·rcases List.mem_cons.1 h with h | h
   ·exact absurd h hj
   ·obtain⟨e,he,h1,h2⟩:=bfExt_has p ks (bfAdd nx ok p Q j) k h hok
    refine⟨e,he,h1,?_⟩
    rcases h2 with h2 | h2
    ·rcases bfAdd_mem h2 with h2 | ⟨rfl,_,_⟩
     ·exact .inl h2
     ·exact absurd h1.symm hj
    ·exact .inr h2
def keysNodup (Q:List (Nat × α)):Prop:=(Q.map (·.1)).Nodup
theorem bfAdd_nodup (p:α) (Q:List (Nat × α)) (k:Nat) (h:keysNodup Q):keysNodup (bfAdd nx ok p Q k):=by
 unfold bfAdd
 split
 ·exact h
 ·rename_i hn
  split
  ·unfold keysNodup at h ⊢
   rw [List.map_append,List.nodup_append]
   refine⟨h,by simp,?_⟩
   intro a ha b hb e
   simp only [List.map_cons,List.map_nil,List.mem_cons,List.not_mem_nil,or_false] at hb
   obtain⟨x,hx,rfl⟩:=List.mem_map.1 ha
   exact hn (List.any_eq_true.2 ⟨x,hx,by simp [e,hb]⟩)
  ·exact h
theorem bfExt_nodup (p:α):∀ (ks:List Nat) (Q:List (Nat × α)),keysNodup Q→keysNodup (bfExt nx ok p Q ks)
 | [],_,h=>h
 | k :: ks,Q,h=>bfExt_nodup p ks _ (bfAdd_nodup p Q k h)
theorem keys_uniq {Q:List (Nat × α)} (h:keysNodup Q) {e f:Nat × α} (he:e ∈ Q) (hf:f ∈ Q) (hk:e.1=f.1):e=f:=by
 induction Q with
 | nil=>cases he
 | cons x Q ih =>
  unfold keysNodup at h ih
  simp only [List.map_cons,List.nodup_cons] at h
  rcases List.mem_cons.1 he with he1 | he1
  ·rcases List.mem_cons.1 hf with hf1 | hf1
   ·rw [he1,hf1]
   ·exact absurd (List.mem_map.2 ⟨f,hf1,by rw [← hk,he1]⟩) h.1
  ·rcases List.mem_cons.1 hf with hf1 | hf1
   ·exact absurd (List.mem_map.2 ⟨e,he1,by rw [hk,hf1]⟩) h.1
   ·exact ih h.2 he1 hf1
variable {nb:Nat→List Nat} {p0:α} {src:List Nat}
theorem bfQ_next {n:Nat} {e:Nat × α} (h:(bfQ nx ok nb p0 src n)[n]?=some e):bfQ nx ok nb p0 src (n+1)=bfExt nx ok e.2 (bfQ nx ok nb p0 src n) (nb e.1):=by
 rw [bfQ,h]
theorem bfQ_stop {n:Nat} (h:(bfQ nx ok nb p0 src n).length≤n):bfQ nx ok nb p0 src (n+1)=bfQ nx ok nb p0 src n:=by
 rw [bfQ,List.getElem?_eq_none h]
theorem bfQ_more (n:Nat):∃ t,bfQ nx ok nb p0 src (n+1)=bfQ nx ok nb p0 src n++t:=by
 cases h:(bfQ nx ok nb p0 src n)[n]? with
 | none=>exact⟨[],by rw [bfQ,h];simp⟩
 | some e=>rw [bfQ_next h];exact bfExt_prefix _ _ _
theorem bfQ_prefix (n:Nat):∀ d,∃ t,bfQ nx ok nb p0 src (n+d)=bfQ nx ok nb p0 src n++t
 | 0=>⟨[],by simp⟩
 | d+1=>by
  obtain⟨t,h⟩:=bfQ_prefix n d
  obtain⟨t',h'⟩:=bfQ_more (nx:=nx) (ok:=ok) (nb:=nb) (p0:=p0) (src:=src) (n+d)
  exact⟨t++t',by rw [← Nat.add_assoc,h',h,List.append_assoc]⟩
theorem bfQ_nodup:∀ n,keysNodup (bfQ nx ok nb p0 src n)
 | 0=>bfExt_nodup _ _ _ (by simp [keysNodup])
 | n+1=>by
  cases h:(bfQ nx ok nb p0 src n)[n]? with
  | none=>rw [bfQ,h];exact bfQ_nodup n
  | some e=>rw [bfQ_next h];exact bfExt_nodup _ _ _ (bfQ_nodup n)
theorem bfQ_bd {N:Nat} (hs:∀ k ∈ src,k<N) (hb:∀ x,x<N→∀ k ∈ nb x,k<N):∀ n,∀ e ∈ bfQ nx ok nb p0 src n,e.1<N
 | 0,e,h=>by
  rcases bfExt_mem _ _ _ _ h with h | ⟨h,_,_⟩
  ·cases h
  ·exact hs _ h
 | n+1,e,h=>by
  cases hn:(bfQ nx ok nb p0 src n)[n]? with
  | none=>rw [bfQ,hn] at h;exact bfQ_bd hs hb n e h
  | some x =>
   rw [bfQ_next hn] at h
   rcases bfExt_mem _ _ _ _ h with h | ⟨h,_,_⟩
   ·exact bfQ_bd hs hb n e h
   ·exact hb _ (bfQ_bd hs hb n x (List.mem_of_getElem? hn)) _ h
theorem nodup_le {N:Nat} {l:List Nat} (h:l.Nodup) (hb:∀ k ∈ l,k<N):l.length≤N:=by
 have:=List.Nodup.length_le_of_subset h (l₂:=List.range N) (fun x hx=>List.mem_range.2 (hb x hx))
 simpa using this
theorem bfQ_len {N:Nat} (hs:∀ k ∈ src,k<N) (hb:∀ x,x<N→∀ k ∈ nb x,k<N) (n:Nat):(bfQ nx ok nb p0 src n).length≤N:=by
 have h:=nodup_le (bfQ_nodup (nx:=nx) (ok:=ok) (nb:=nb) (p0:=p0) (src:=src) n) (N:=N) (fun k hk=>by
  obtain⟨e,he,rfl⟩:=List.mem_map.1 hk
  exact bfQ_bd hs hb n e he)
 simpa using h
/-- What a queue under way keeps: a way of each entry's rank. -/
theorem bfQ_way (rk:α→Nat) (h0:rk p0=0) (hx:∀ p k,rk (nx p k)=rk p+1):∀ n,∀ e ∈ bfQ nx ok nb p0 src n,WayN nb ok src e.1 (rk e.2)
 | 0,e,h=>by
  rcases bfExt_mem _ _ _ _ h with h | ⟨h,h2,h3⟩
  ·cases h
  ·rw [h2,hx,h0]
   exact .src h h3
 | n+1,e,h=>by
  cases hn:(bfQ nx ok nb p0 src n)[n]? with
  | none=>rw [bfQ,hn] at h;exact bfQ_way rk h0 hx n e h
  | some x =>
   rw [bfQ_next hn] at h
   rcases bfExt_mem _ _ _ _ h with h | ⟨h,h2,h3⟩
   ·exact bfQ_way rk h0 hx n e h
   ·rw [h2,hx]
    exact .step (bfQ_way rk h0 hx n x (List.mem_of_getElem? hn)) h h3
/-- Ranks do not fall along the queue, and none is more than one above that of the entry to be looked at. -/
theorem bfQ_sorted (rk:α→Nat) (h0:rk p0=0) (hx:∀ p k,rk (nx p k)=rk p+1):∀ n,(bfQ nx ok nb p0 src n).Pairwise (fun a b=>rk a.2≤rk b.2)∧∀ x,(bfQ nx ok nb p0 src n)[n]?=some x→∀ e ∈ bfQ nx ok nb p0 src n,rk e.2≤rk x.2+1
 | 0=>by
  have h:∀ e ∈ bfQ nx ok nb p0 src 0,rk e.2=1:=fun e h=>by
   rcases bfExt_mem _ _ _ _ h with h | ⟨h,h2,_⟩
   ·cases h
   ·rw [h2,hx,h0]
  refine⟨List.pairwise_iff_getElem.2 fun i j hi hj _=>?_,fun x hx' e he=>?_⟩
  ·rw [h _ (List.getElem_mem hi),h _ (List.getElem_mem hj)];exact Nat.le_refl _
  ·rw [h e he];omega
 | n+1=>by
  obtain⟨ih1,ih2⟩:=bfQ_sorted rk h0 hx n
  cases hn:(bfQ nx ok nb p0 src n)[n]? with
  | none =>
   have he:bfQ nx ok nb p0 src (n+1)=bfQ nx ok nb p0 src n:=by rw [bfQ,hn]
   rw [he]
   refine⟨ih1,fun x hx'=>?_⟩
   have h1:=List.getElem?_eq_none_iff.1 hn
   rw [List.getElem?_eq_none (by omega)] at hx'
   cases hx'
  | some x =>
   have hle:=ih2 x hn
   have hmem:∀ e ∈ bfQ nx ok nb p0 src (n+1),e ∈ bfQ nx ok nb p0 src n∨rk e.2=rk x.2+1:=fun e h=>by
    rw [bfQ_next hn] at h
    rcases bfExt_mem _ _ _ _ h with h | ⟨_,h2,_⟩
    ·exact .inl h
    ·exact .inr (by rw [h2,hx])
   obtain⟨t,ht⟩:=bfQ_more (nx:=nx) (ok:=ok) (nb:=nb) (p0:=p0) (src:=src) n
   have ht2:∀ e ∈ t,rk e.2=rk x.2+1:=by
    have hnd:=bfQ_nodup (nx:=nx) (ok:=ok) (nb:=nb) (p0:=p0) (src:=src) (n+1)
    intro e he
    rcases hmem e (by rw [ht];exact List.mem_append_right _ he) with h | h
    ·unfold keysNodup at hnd
     rw [ht,List.map_append,List.nodup_append] at hnd
     exact absurd rfl (hnd.2.2 _ (List.mem_map.2 ⟨e,h,rfl⟩) _ (List.mem_map.2 ⟨e,he,rfl⟩))
    ·exact h
   have hs:(bfQ nx ok nb p0 src (n+1)).Pairwise (fun a b=>rk a.2≤rk b.2):=by
    rw [ht,List.pairwise_append]
    refine⟨ih1,List.pairwise_iff_getElem.2 fun i j hi hj _=>?_,fun a ha b hb=>?_⟩
    ·rw [ht2 _ (List.getElem_mem hi),ht2 _ (List.getElem_mem hj)];exact Nat.le_refl _
    ·rw [ht2 b hb];exact hle a ha
   refine⟨hs,fun y hy e he=>?_⟩
   have hnl:=(List.getElem?_eq_some_iff.1 hn).1
   have hx2:(bfQ nx ok nb p0 src (n+1))[n]?=some x:=by
    rw [ht,List.getElem?_append_left hnl];exact hn
   obtain⟨i1,e1⟩:=List.getElem?_eq_some_iff.1 hx2
   obtain⟨i2,e2⟩:=List.getElem?_eq_some_iff.1 hy
   have hxy:rk x.2≤rk y.2:=by
    have:=List.pairwise_iff_getElem.1 hs n (n+1) i1 i2 (by omega)
    rwa [e1,e2] at this
   rcases hmem e he with h | h
   ·have:=hle e h;omega
   ·omega
/-- What has been looked at has its neighbours in the queue, at most one rank above. -/
theorem bfQ_done (rk:α→Nat) (h0:rk p0=0) (hx:∀ p k,rk (nx p k)=rk p+1) {n j:Nat} {x:Nat × α} (hj:j<n) (hn:(bfQ nx ok nb p0 src n)[j]?=some x) {k:Nat} (hk:k ∈ nb x.1) (hok:ok k=true) :
  ∃ e ∈ bfQ nx ok nb p0 src n,e.1=k∧rk e.2≤rk x.2+1:=by
 obtain⟨d,rfl⟩:∃ d,n=(j+1)+d:=⟨n - (j+1),by omega⟩
 obtain⟨t,ht⟩:=bfQ_prefix (nx:=nx) (ok:=ok) (nb:=nb) (p0:=p0) (src:=src) (j+1) d
 by_cases hl:(bfQ nx ok nb p0 src j).length≤j
 ·have same:∀ d,bfQ nx ok nb p0 src (j+d)=bfQ nx ok nb p0 src j:=by
   intro d
   induction d with
   | zero=>rfl
   | succ d ih=>rw [← Nat.add_assoc,bfQ_stop (by rw [ih];omega),ih]
  rw [show j+1+d=j+(1+d) by omega,same,List.getElem?_eq_none hl] at hn
  exact absurd hn (by simp)
 ·obtain⟨t',ht'⟩:=bfQ_more (nx:=nx) (ok:=ok) (nb:=nb) (p0:=p0) (src:=src) j
  have hx2:(bfQ nx ok nb p0 src j)[j]?=some x:=by
   rw [ht,ht',List.append_assoc,List.getElem?_append_left (by omega)] at hn
   exact hn
  obtain⟨e,he,h1,h2⟩:=bfExt_has (nx:=nx) (ok:=ok) x.2 (nb x.1) (bfQ nx ok nb p0 src j) k hk hok
  rw [← bfQ_next hx2] at he
  refine⟨e,by rw [ht];exact List.mem_append_left _ he,h1,?_⟩
  rcases h2 with h2 | h2
  ·exact(bfQ_sorted rk h0 hx j).2 x hx2 e h2
  ·rw [h2,hx];exact Nat.le_refl _
theorem bfQ_least (rk:α→Nat) (h0:rk p0=0) (hx:∀ p k,rk (nx p k)=rk p+1) {n:Nat} (hn:(bfQ nx ok nb p0 src n).length≤n) {k m:Nat} (h:WayN nb ok src k m) :
  ∃ e ∈ bfQ nx ok nb p0 src n,e.1=k∧rk e.2≤m:=by
 induction h with
 | @src k hk hok =>
  obtain⟨e,he,h1,h2⟩:=bfExt_has (nx:=nx) (ok:=ok) p0 src [] k hk hok
  obtain⟨t,ht⟩:=bfQ_prefix (nx:=nx) (ok:=ok) (nb:=nb) (p0:=p0) (src:=src) 0 n
  rw [Nat.zero_add] at ht
  refine⟨e,by rw [ht];exact List.mem_append_left _ he,h1,?_⟩
  rcases h2 with h2 | h2
  ·cases h2
  ·rw [h2,hx,h0];exact Nat.le_refl _
 | @step x k m hw hk hok ih =>
  obtain⟨e,he,h1,h2⟩:=ih
  obtain⟨j,hj,hje⟩:=List.getElem_of_mem he
  have hje2:(bfQ nx ok nb p0 src n)[j]?=some e:=List.getElem?_eq_some_iff.2 ⟨hj,hje⟩
  obtain⟨f,hf,h3,h4⟩:=bfQ_done rk h0 hx (by omega) hje2 (k:=k) (by rw [h1];exact hk) hok
  exact⟨f,hf,h3,by omega⟩
end
/-- Two searches of the same ways reach the same hexes with the same ranks. -/
theorem bfQ_same {α β:Type} {nx:α→Nat→α} {ny:β→Nat→β} {ok ok':Nat→Bool} {nb nb':Nat→List Nat} {p0:α} {q0:β} {src src':List Nat} (rk:α→Nat) (rj:β→Nat)
  (h0:rk p0=0) (hx:∀ p k,rk (nx p k)=rk p+1) (h0':rj q0=0) (hx':∀ p k,rj (ny p k)=rj p+1)
  (hww:∀ k m,WayN nb ok src k m ↔ WayN nb' ok' src' k m) {n n':Nat} (hn:(bfQ nx ok nb p0 src n).length≤n) (hn':(bfQ ny ok' nb' q0 src' n').length≤n') {e:Nat × α} (he:e ∈ bfQ nx ok nb p0 src n) :
  ∃ f ∈ bfQ ny ok' nb' q0 src' n',f.1=e.1∧rj f.2=rk e.2:=by
 obtain⟨f,hf,h1,h2⟩:=bfQ_least rj h0' hx' hn' ((hww _ _).1 (bfQ_way rk h0 hx n e he))
 obtain⟨g,hg,h3,h4⟩:=bfQ_least rk h0 hx hn ((hww _ _).2 (bfQ_way rj h0' hx' n' f hf))
 have:=keys_uniq (bfQ_nodup n) hg he (h3.trans h1)
 subst this
 exact⟨f,hf,h1,by omega⟩
/-- What a hex bears in a queue; p0 if it isn't there. -/
def lookN {α:Type} (p0:α) (Q:List (Nat × α)) (k:Nat):α:=((Q.find? (fun e=>e.1 == k)).map (·.2)).getD p0
theorem lookN_nil {α:Type} (p0:α) (k:Nat):lookN p0 [] k=p0:=rfl
theorem lookN_mem {α:Type} {p0:α} {Q:List (Nat × α)} (h:keysNodup Q) {e:Nat × α} (he:e ∈ Q):lookN p0 Q e.1=e.2:=by
 unfold lookN
 cases hf:Q.find? (fun x=>x.1 == e.1) with
 | none=>exact absurd (List.find?_eq_none.1 hf e he) (by simp)
 | some f =>
  have h1:=List.mem_of_find?_eq_some hf
  have h2:f.1=e.1:=by simpa using List.find?_some hf
  rw [keys_uniq h h1 he h2]
  rfl
theorem lookN_cases {α:Type} (p0:α) (Q:List (Nat × α)) (k:Nat):((∀ e ∈ Q,e.1 ≠ k)∧lookN p0 Q k=p0)∨∃ e ∈ Q,e.1=k∧lookN p0 Q k=e.2:=by
 unfold lookN
 cases hf:Q.find? (fun x=>x.1 == k) with
 | none=>exact .inl ⟨fun e he=>by simpa using List.find?_eq_none.1 hf e he,rfl⟩
 | some f=>exact .inr ⟨f,List.mem_of_find?_eq_some hf,by simpa using List.find?_some hf,rfl⟩
theorem lookN_snoc {α:Type} (p0 p:α) (Q:List (Nat × α)) (k j:Nat) (h:∀ e ∈ Q,e.1 ≠ k):lookN p0 (Q++[(k,p)]) j=if j=k then p else lookN p0 Q j:=by
 unfold lookN
 rw [List.find?_append]
 by_cases hj:j=k
 ·subst hj
  rw [if_pos rfl,List.find?_eq_none.2 (fun e he=>by simpa using h e he)]
  simp
 ·rw [if_neg hj]
  cases hf:Q.find? (fun x=>x.1 == j) with
  | none=>simp [Ne.symm hj]
  | some f=>simp
def tabQ {α:Type} (p0:α) (N:Nat) (Q:List (Nat × α)):List α:=(List.range N).map (lookN p0 Q)
theorem tabQ_len {α:Type} (p0:α) (N:Nat) (Q:List (Nat × α)):(tabQ p0 N Q).length=N:=by simp [tabQ]
theorem tabQ_at {α:Type} {p0:α} {N:Nat} {Q:List (Nat × α)} {k:Nat} (h:k<N):(tabQ p0 N Q)[k]?=some (lookN p0 Q k):=by simp [tabQ,h]
theorem tabQ_set {α:Type} {p0 p:α} {N:Nat} {Q:List (Nat × α)} {k:Nat} (h:∀ e ∈ Q,e.1 ≠ k):tabQ p0 N (Q++[(k,p)])=(tabQ p0 N Q).set k p:=by
 apply List.ext_getElem?
 intro j
 rw [List.getElem?_set,tabQ_len]
 by_cases hj:j<N
 ·rw [tabQ_at hj,tabQ_at hj,lookN_snoc _ _ _ _ _ h]
  by_cases hk:j=k
  ·subst hk;simp [hj]
  ·simp [hk,Ne.symm hk]
 ·rw [List.getElem?_eq_none (by rw [tabQ_len];omega)]
  split
  ·split
   ·omega
   ·rfl
  ·rw [List.getElem?_eq_none (by rw [tabQ_len];omega)]
section
variable {α:Type} {nx:α→Nat→α} {ok:Nat→Bool} {nb:Nat→List Nat} {p0:α} {src:List Nat}
theorem bfAdd_in {p:α} {Q:List (Nat × α)} {k:Nat} (h:∃ e ∈ Q,e.1=k):bfAdd nx ok p Q k=Q:=by
 obtain⟨e,he,rfl⟩:=h
 unfold bfAdd
 rw [if_pos (List.any_eq_true.2 ⟨e,he,by simp⟩)]
theorem bfAdd_no {p:α} {Q:List (Nat × α)} {k:Nat} (h:ok k=false):bfAdd nx ok p Q k=Q:=by
 unfold bfAdd
 split
 ·rfl
 ·rw [if_neg (by simp [h])]
theorem bfAdd_new {p:α} {Q:List (Nat × α)} {k:Nat} (h:∀ e ∈ Q,e.1 ≠ k) (hok:ok k=true):bfAdd nx ok p Q k=Q++[(k,nx p k)]:=by
 unfold bfAdd
 rw [if_neg (fun hh=>by
  obtain⟨e,he,hk⟩:=List.any_eq_true.1 hh
  exact h e he (by simpa using hk)),if_pos hok]
/-- A search that has come to its queue's end stays as it is. -/
theorem bfQ_fin {n N:Nat} (h:(bfQ nx ok nb p0 src n).length≤n) (hN:n≤N):bfQ nx ok nb p0 src N=bfQ nx ok nb p0 src n:=by
 obtain⟨d,rfl⟩:∃ d,N=n+d:=⟨N - n,by omega⟩
 clear hN
 induction d with
 | zero=>rfl
 | succ d ih=>rw [← Nat.add_assoc,bfQ_stop (by rw [ih];omega),ih]
end
/-- Two searches of the same ways: the same ranks at every hex. -/
theorem look_same {α β:Type} {nx:α→Nat→α} {ny:β→Nat→β} {ok ok':Nat→Bool} {nb nb':Nat→List Nat} {p0:α} {q0:β} {src src':List Nat} (rk:α→Nat) (rj:β→Nat)
  (h0:rk p0=0) (hx:∀ p k,rk (nx p k)=rk p+1) (h0':rj q0=0) (hx':∀ p k,rj (ny p k)=rj p+1)
  (hww:∀ k m,WayN nb ok src k m ↔ WayN nb' ok' src' k m) {n n':Nat} (hn:(bfQ nx ok nb p0 src n).length≤n) (hn':(bfQ ny ok' nb' q0 src' n').length≤n') (k:Nat) :
  rk (lookN p0 (bfQ nx ok nb p0 src n) k)=rj (lookN q0 (bfQ ny ok' nb' q0 src' n') k):=by
 rcases lookN_cases p0 (bfQ nx ok nb p0 src n) k with ⟨h1,h2⟩ | ⟨e,he,rfl,h2⟩
 ·rcases lookN_cases q0 (bfQ ny ok' nb' q0 src' n') k with ⟨h3,h4⟩ | ⟨f,hf,rfl,h4⟩
  ·rw [h2,h4,h0,h0']
  ·obtain⟨g,hg,h5,_⟩:=bfQ_same rj rk h0' hx' h0 hx (fun k m=>(hww k m).symm) hn' hn hf
   exact absurd h5 (h1 g hg)
 ·obtain⟨g,hg,h5,h6⟩:=bfQ_same rk rj h0 hx h0' hx' hww hn hn' he
  rw [h2,← h5,lookN_mem (bfQ_nodup n') hg,h6]
/-- A path from a source to k. -/
inductive PathN (nb:Nat→List Nat) (ok:Nat→Bool) (src:List Nat):List Nat→Nat→Prop
 | src {k:Nat}:k ∈ src→ok k=true→PathN nb ok src [k] k
 | step {p:List Nat} {x k:Nat}:PathN nb ok src p x→k ∈ nb x→ok k=true→PathN nb ok src (p++[k]) k
/-- A path that keeps to other hexes, too. -/
theorem bfQ_tail {α:Type} {nx:α→Nat→α} {ok:Nat→Bool} {nb:Nat→List Nat} {p0:α} {src:List Nat} {n:Nat} {x:Nat × α} (hn:(bfQ nx ok nb p0 src n)[n]?=some x) :
  ∃ t,bfQ nx ok nb p0 src (n+1)=bfQ nx ok nb p0 src n++t∧∀ e ∈ t,e.1 ∈ nb x.1∧e.2=nx x.2 e.1∧ok e.1=true:=by
 obtain⟨t,ht⟩:=bfQ_more (nx:=nx) (ok:=ok) (nb:=nb) (p0:=p0) (src:=src) n
 refine⟨t,ht,fun e he=>?_⟩
 have hnd:=bfQ_nodup (nx:=nx) (ok:=ok) (nb:=nb) (p0:=p0) (src:=src) (n+1)
 have hm:e ∈ bfQ nx ok nb p0 src (n+1):=by rw [ht];exact List.mem_append_right _ he
 rw [bfQ_next hn] at hm
 rcases bfExt_mem _ _ _ _ hm with h | h
 ·unfold keysNodup at hnd
  rw [ht,List.map_append,List.nodup_append] at hnd
  exact absurd rfl (hnd.2.2 _ (List.mem_map.2 ⟨e,h,rfl⟩) _ (List.mem_map.2 ⟨e,he,rfl⟩))
 ·exact h
/-- The rank at place j of the queue is at most j+1. -/
theorem bfQ_place {α:Type} {nx:α→Nat→α} {ok:Nat→Bool} {nb:Nat→List Nat} {p0:α} {src:List Nat} (rk:α→Nat) (h0:rk p0=0) (hx:∀ p k,rk (nx p k)=rk p+1) :
  ∀ (n j:Nat) (e:Nat × α),(bfQ nx ok nb p0 src n)[j]?=some e→rk e.2≤j+1
 | 0,j,e,h=>by
  rcases bfExt_mem _ _ _ _ (List.mem_of_getElem? h) with h | ⟨_,h2,_⟩
  ·cases h
  ·rw [h2,hx,h0];omega
 | n+1,j,e,h=>by
  cases hn:(bfQ nx ok nb p0 src n)[n]? with
  | none=>rw [bfQ,hn] at h;exact bfQ_place rk h0 hx n j e h
  | some x =>
   obtain⟨t,ht,h1⟩:=bfQ_tail hn
   have hl:=(List.getElem?_eq_some_iff.1 hn).1
   have hr:=bfQ_place rk h0 hx n n x hn
   rw [ht] at h
   by_cases hj:j<(bfQ nx ok nb p0 src n).length
   ·rw [List.getElem?_append_left hj] at h
    exact bfQ_place rk h0 hx n j e h
   ·rw [List.getElem?_append_right (by omega)] at h
    rw [(h1 e (List.mem_of_getElem? h)).2.1,hx]
    omega
end Go.Proofs.YtacgknllagdkoaaGreatDoor
