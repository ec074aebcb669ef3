/-
 Supply as plain data: blocked hexes, hexes that can be used, neighbours in two orders, the search of both sides, who is in supply. No program is looked into.
-/
import Derived.Test.YtacgknllagdkoaaGreatDoorSuB
import Derived.Test.YtacgknllagdkoaaGreatDoorZnM
import Derived.Test.YtacgknllagdkoaaGreatDoorQa
import Derived.Test.YtacgknllagdkoaaGreatDoorQa
namespace Go.Proofs.YtacgknllagdkoaaGreatDoor
open Go.RowKit
/-- A hex is blocked for a side. -/
def blkB (l:List Ter) (m:List Knd) (lt lr ld:List Int) (W:Int) (us:List Uni) (sd i:Int):Bool:=if ownN us i=-1 then zonB l m lt lr ld W us (1 - sd) i else !(ownN us i == sd)
def pasB (l:List Ter) (m:List Knd) (lt lr ld:List Int) (W:Int) (us:List Uni) (sd:Int) (k i:Nat):Bool:=opnB l lt k i && !blkB l m lt lr ld W us sd i
theorem blkB_spec {l:List Ter} {m:List Knd} {lt lr ld:List Int} {W:Int} {us:List Uni} {sd i:Int} (h:-1≤ownN us i∧ownN us i≤1) (hs:sd=0∨sd=1) :
  ((ownN us i == 1 - sd) || (decide (ownN us i<0) && zonB l m lt lr ld W us (1 - sd) i))=blkB l m lt lr ld W us sd i:=by
 unfold blkB
 by_cases h1:ownN us i=-1
 ·rw [if_pos h1,h1]
  rcases hs with rfl | rfl <;> simp
 ·rw [if_neg h1]
  have h2:decide (ownN us i<0)=false:=by simp;omega
  rw [h2,Bool.false_and,Bool.or_false]
  generalize ownN us i=X at h h1
  have h3:X=0∨X=1:=by omega
  rcases hs with rfl | rfl <;> rcases h3 with rfl | rfl <;> rfl
def ints (l:List Nat):List Int:=l.map fun k:Nat=>(k:Int)
theorem ints_len (l:List Nat):(ints l).length=l.length:=by simp [ints]
theorem ints_at {l:List Nat} {j k:Nat} (h:l[j]?=some k):(ints l)[j]?=some (k:Int):=by simp [ints,h]
theorem ints_append (l m:List Nat):ints (l++m)=ints l++ints m:=by simp [ints]
theorem ints_toNat {l:List Int} (h:∀ x ∈ l,0≤x):ints (l.map Int.toNat)=l:=by
 unfold ints
 rw [List.map_map]
 conv=>rhs;rw [← List.map_id l]
 exact List.map_congr_left fun x hx=>by have:=h x hx;simp;omega
/-- The neighbours of a hex in the first n directions. -/
def nbT (W H:Int) (x:Nat):Nat→List Nat
 | 0=>[]
 | n+1=>if nbM W H x n=true then nbT W H x n++[(nbI W x n).toNat] else nbT W H x n
theorem nbT_yes {W H:Int} {x n:Nat} (h:nbM W H x n=true):nbT W H x (n+1)=nbT W H x n++[(nbI W x n).toNat]:=if_pos h
theorem nbTI_yes {W H:Int} {x n:Nat} (h:nbM W H x n=true):ints (nbT W H x (n+1))=ints (nbT W H x n)++[nbI W x n]:=by
 rw [nbT_yes h,ints_append]
 have h1:0≤nbI W x n:=(idx_bd h).1
 simp [ints]
 omega
theorem nbT_no {W H:Int} {x n:Nat} (h:nbM W H x n=false):nbT W H x (n+1)=nbT W H x n:=if_neg (by simp [h])
theorem nbT_mem {W H:Int} {x k:Nat}:∀ {n:Nat},k ∈ nbT W H x n ↔ ∃ d:Nat,d<n∧nbM W H x d=true∧k=(nbI W x d).toNat
 | 0=>by simp [nbT]
 | n+1=>by
  unfold nbT
  have ih:=@nbT_mem W H x k n
  split
  ·rename_i h
   rw [List.mem_append,ih]
   constructor
   ·rintro (⟨d,hd,h1,h2⟩ | h1)
    ·exact⟨d,by omega,h1,h2⟩
    ·exact⟨n,by omega,h,by simpa using h1⟩
   ·rintro ⟨d,hd,h1,h2⟩
    by_cases hn:d=n
    ·subst hn;exact .inr (by simp [h2])
    ·exact .inl ⟨d,by omega,h1,h2⟩
  ·rename_i h
   rw [ih]
   constructor
   ·rintro ⟨d,hd,h1,h2⟩
    exact⟨d,by omega,h1,h2⟩
   ·rintro ⟨d,hd,h1,h2⟩
    by_cases hn:d=n
    ·subst hn;exact absurd h1 h
    ·exact⟨d,by omega,h1,h2⟩
theorem nbT_len {W H:Int} {x:Nat}:∀ n,(nbT W H x n).length≤n
 | 0=>by simp [nbT]
 | n+1=>by
  have ih:=@nbT_len W H x n
  unfold nbT
  split
  ·rw [List.length_append];simp;omega
  ·omega
theorem nbM_at {W H:Int} {x d:Nat} (h:nbM W H x d=true):0≤nbI W x d∧nbI W x d<W*H:=idx_bd h
theorem nbT_bd {W H:Int} {x n k N:Nat} (hN:(N:Int)=W*H) (h:k ∈ nbT W H x n):k<N:=by
 obtain⟨d,_,h1,rfl⟩:=nbT_mem.1 h
 have:=nbM_at h1
 omega
/-- The same neighbours, strictly rising. -/
def nbS (W H:Int) (x:Nat):List Nat:=((ints (nbT W H x 6)).mergeSort fun a b=>decide (a≤b)).map Int.toNat
theorem nbS_ints (W H:Int) (x:Nat):ints (nbS W H x)=(ints (nbT W H x 6)).mergeSort fun a b=>decide (a≤b) :=
 ints_toNat fun y hy=>by
  have:=List.mem_mergeSort.1 hy
  obtain⟨k,_,rfl⟩:=List.mem_map.1 this
  omega
theorem nbS_mem {W H:Int} {x k:Nat}:k ∈ nbS W H x ↔ k ∈ nbT W H x 6:=by
 unfold nbS ints
 rw [List.mem_map]
 constructor
 ·rintro ⟨a,ha,rfl⟩
  obtain⟨j,hj,rfl⟩:=List.mem_map.1 (List.mem_mergeSort.1 ha)
  simpa using hj
 ·intro h
  exact⟨(k:Int),List.mem_mergeSort.2 (List.mem_map.2 ⟨k,h,rfl⟩),by simp⟩
theorem nbS_len (W H:Int) (x:Nat):(nbS W H x).length≤6:=by
 have h:=nbT_len (W:=W) (H:=H) (x:=x) 6
 unfold nbS
 rw [List.length_map,List.length_mergeSort,ints_len]
 exact h
theorem nbS_bd {W H:Int} {x k N:Nat} (hN:(N:Int)=W*H) (h:k ∈ nbS W H x):k<N:=nbT_bd hN (nbS_mem.1 h)
/-- The searches: the reference's counts the hexes of a way, the program's keeps the way. -/
def srcQ (ok:Nat→Bool) (W H:Int) (src:List Nat) (n:Nat):List (Nat × Nat):=bfQ (fun (p:Nat) _=>p+1) ok (fun x=>nbT W H x 6) 0 src n
def wayQ (ok:Nat→Bool) (W H:Int) (src:List Nat) (n:Nat):List (Nat × List Nat):=bfQ (fun p k=>p++[k]) ok (nbS W H) [] src n
def farN (ok:Nat→Bool) (W H:Int) (src:List Nat) (N k:Nat):Nat:=lookN 0 (srcQ ok W H src N) k
def wayN (ok:Nat→Bool) (W H:Int) (src:List Nat) (N k:Nat):List Nat:=lookN [] (wayQ ok W H src N) k
def farL (ok:Nat→Bool) (W H:Int) (src:List Nat) (N:Nat):List Int:=(List.range N).map fun k=>(farN ok W H src N k:Int) - 1
theorem way_far {ok:Nat→Bool} {W H:Int} {src:List Nat} {N:Nat} (hN:(N:Int)=W*H) (hs:∀ k ∈ src,k<N) (k:Nat):(wayN ok W H src N k).length=farN ok W H src N k :=
 look_same List.length (fun n=>n) rfl (by simp) rfl (by simp)
  (fun k m=>⟨fun h=>h.of (fun _ _ _ h1 _=>nbS_mem.1 h1) (fun _ h=>h) (fun _ h _=>h),fun h=>h.of (fun _ _ _ h1 _=>nbS_mem.2 h1) (fun _ h=>h) (fun _ h _=>h)⟩)
  (bfQ_len hs (fun _ _ _ h=>nbS_bd hN h) N) (bfQ_len hs (fun _ _ _ h=>nbT_bd hN h) N) k
theorem farN_bd {ok:Nat→Bool} {W H:Int} {src:List Nat} {N:Nat} (hN:(N:Int)=W*H) (hs:∀ k ∈ src,k<N) (k:Nat):farN ok W H src N k≤N:=by
 unfold farN
 rcases lookN_cases 0 (srcQ ok W H src N) k with ⟨_,h⟩ | ⟨e,he,_,h⟩
 ·rw [h];omega
 ·obtain⟨j,hj,hje⟩:=List.getElem_of_mem he
  have h1:=bfQ_place (fun n:Nat=>n) rfl (fun _ _=>rfl) N j e (List.getElem?_eq_some_iff.2 ⟨hj,hje⟩)
  have h2:=bfQ_len (nx:=fun (p:Nat) _=>p+1) (ok:=ok) (nb:=fun x=>nbT W H x 6) (p0:=0) hs (fun _ _ _ h=>nbT_bd hN h) N
  have hj2:j<(bfQ (fun (p:Nat) _=>p+1) ok (fun x=>nbT W H x 6) 0 src N).length:=hj
  rw [h]
  omega
/-- The hexes of a queue. -/
def keysQ {α:Type} (Q:List (Nat × α)):List Nat:=Q.map (·.1)
theorem keysQ_len {α:Type} (Q:List (Nat × α)):(keysQ Q).length=Q.length:=by simp [keysQ]
theorem keysQ_snoc {α:Type} (Q:List (Nat × α)) (k:Nat) (p:α):keysQ (Q++[(k,p)])=keysQ Q++[k]:=by simp [keysQ]
theorem keysQ_at {α:Type} {Q:List (Nat × α)} {n x:Nat} {p:α} (h:Q[n]?=some (x,p)):(keysQ Q)[n]?=some x:=by simp [keysQ,h]
/-- The reference's list of distances under way. -/
def farT (N:Nat) (Q:List (Nat × Nat)):List Int:=(List.range N).map fun k=>((lookN 0 Q k:Nat):Int) - 1
theorem farT_len (N:Nat) (Q:List (Nat × Nat)):(farT N Q).length=N:=by simp [farT]
theorem farT_at {N:Nat} {Q:List (Nat × Nat)} {k:Nat} (h:k<N):(farT N Q)[k]?=some (((lookN 0 Q k:Nat):Int) - 1):=by simp [farT,h]
theorem farT_new {N p:Nat} {Q:List (Nat × Nat)} {k:Nat} (h:∀ e ∈ Q,e.1 ≠ k):farT N (Q++[(k,p)])=(farT N Q).set k ((p:Int) - 1):=by
 have h1:=tabQ_set (p0:=0) (p:=p) (N:=N) h
 have e:∀ Q,farT N Q=(tabQ 0 N Q).map fun n:Nat=>(n:Int) - 1:=fun Q=>by simp [farT,tabQ]
 rw [e,e,h1,List.map_set]
def negT (N q:Nat):List Int:=(List.range N).map fun j=>if j<q then -1 else 0
theorem negT_zero (N:Nat):negT N 0=List.replicate N 0:=by
 unfold negT
 rw [List.eq_replicate_iff]
 refine⟨by simp,fun b hb=>?_⟩
 obtain⟨j,_,rfl⟩:=List.mem_map.1 hb
 rw [if_neg (by omega)]
theorem negT_len (N q:Nat):(negT N q).length=N:=by simp [negT]
theorem negT_next {N q:Nat} (h:q<N):negT N (q+1)=(negT N q).set q (-1):=by
 apply List.ext_getElem?
 intro j
 rw [List.getElem?_set,negT_len]
 unfold negT
 by_cases hj:j<N
 ·simp only [List.getElem?_map,List.getElem?_range hj,Option.map_some]
  by_cases hq:q=j
  ·subst hq;simp [h]
  ·rw [if_neg hq]
   congr 1
   by_cases h1:j<q
   ·rw [if_pos h1,if_pos (by omega)]
   ·rw [if_neg h1,if_neg (by omega)]
 ·rw [List.getElem?_eq_none (by simp;omega),List.getElem?_eq_none (by simp;omega)]
  by_cases hq:q=j
  ·subst hq;exact absurd h hj
  ·rw [if_neg hq]
theorem negT_all (N:Nat):negT N N=farT N []:=by
 unfold negT farT
 refine List.map_congr_left fun j hj=>?_
 rw [if_pos (List.mem_range.1 hj),lookN_nil]
 rfl
/-- What is known of a queue under way. -/
structure Srq (N:Nat) (Q:List (Nat × Nat)):Prop where
 nd:keysNodup Q
 bd:∀ e ∈ Q,e.1<N∧1≤e.2∧e.2≤101
theorem Srq.nil (N:Nat):Srq N []:=⟨by simp [keysNodup],fun e he=>by cases he⟩
theorem Srq.len {N:Nat} {Q:List (Nat × Nat)} (h:Srq N Q):Q.length≤N:=by
 have h1:=nodup_le h.nd (N:=N) (fun k hk=>by
  obtain⟨e,he,rfl⟩:=List.mem_map.1 hk
  exact(h.bd e he).1)
 simpa using h1
theorem Srq.look {N:Nat} {Q:List (Nat × Nat)} (h:Srq N Q) (k:Nat):(lookN 0 Q k=0∧∀ e ∈ Q,e.1 ≠ k)∨(1≤lookN 0 Q k∧lookN 0 Q k≤101∧∃ e ∈ Q,e.1=k):=by
 rcases lookN_cases 0 Q k with ⟨h1,h2⟩ | ⟨e,he,h1,h2⟩
 ·exact .inl ⟨h2,h1⟩
 ·rw [h2]
  exact .inr ⟨(h.bd e he).2.1,(h.bd e he).2.2,e,he,h1⟩
theorem Srq.add {N:Nat} {Q:List (Nat × Nat)} (h:Srq N Q) {k p:Nat} (hk:k<N) (hp:1≤p) (hp2:p≤101) (hn:∀ e ∈ Q,e.1 ≠ k):Srq N (Q++[(k,p)]):=by
 refine⟨?_,fun e he=>?_⟩
 ·have h1:=h.nd
  unfold keysNodup at h1 ⊢
  rw [List.map_append,List.nodup_append]
  refine⟨h1,by simp,fun a ha b hb e=>?_⟩
  obtain⟨x,hx,rfl⟩:=List.mem_map.1 ha
  simp only [List.map_cons,List.map_nil,List.mem_cons,List.not_mem_nil,or_false] at hb
  exact hn x hx (by rw [e,hb])
 ·rcases List.mem_append.1 he with he | he
  ·exact h.bd e he
  ·have:e=(k,p):=by simpa using he
   subst this
   exact⟨hk,hp,hp2⟩
/-- The reference's next queue: a source. -/
theorem src_step {ok:Nat→Bool} {src:List Nat} {q k:Nat} (hk:src[q]?=some k) (hnd:src.Nodup) :
  (ok k=true→bfExt (fun (p:Nat) _=>p+1) ok 0 [] (src.take (q+1))=bfExt (fun (p:Nat) _=>p+1) ok 0 [] (src.take q)++[(k,1)]∧∀ e ∈ bfExt (fun (p:Nat) _=>p+1) ok 0 [] (src.take q),e.1 ≠ k) ∧
  (ok k=false→bfExt (fun (p:Nat) _=>p+1) ok 0 [] (src.take (q+1))=bfExt (fun (p:Nat) _=>p+1) ok 0 [] (src.take q)):=by
 have ht:src.take (q+1)=src.take q++[k]:=by rw [List.take_add_one,hk];rfl
 rw [ht,bfExt_snoc]
 have hn:∀ e ∈ bfExt (fun (p:Nat) _=>p+1) ok 0 [] (src.take q),e.1 ≠ k:=fun e he h1=>by
  rcases bfExt_mem _ _ _ _ he with h | ⟨h,_,_⟩
  ·cases h
  ·rw [h1] at h
   have h2:(src.take (q+1)).Nodup:=(List.take_sublist _ _).nodup hnd
   rw [ht,List.nodup_append] at h2
   exact h2.2.2 k h k (by simp) rfl
 exact⟨fun h=>⟨bfAdd_new hn h,hn⟩,fun h=>bfAdd_no h⟩
/-- Who is in supply. -/
def insB (len:Nat) (c:Int):Bool:=decide (1≤(len:Int)) && decide ((len:Int)≤c+1)
end Go.Proofs.YtacgknllagdkoaaGreatDoor
