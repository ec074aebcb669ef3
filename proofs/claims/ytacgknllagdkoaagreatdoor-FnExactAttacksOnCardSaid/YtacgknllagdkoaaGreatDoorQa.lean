/-
 Texts of this seat in one module: Hex, Cb, RulM, Dirs, HexB, Far, Row, Mark.
-/
import Derived.Test.YtacgknllagdkoaaGreatDoorProg
import Derived.WalkKit
import Derived.WalkLawsBesides
import Derived.Below
import Derived.KernelRfl
import Derived.Lib.Hide
import Derived.OrdersHeld
import Derived.Lib.SlicesS
import Derived.LoopTactic
import Derived.IntWalk
import Derived.Laws.AppendOwn
import Derived.Laws.OwnMore
import Derived.OwnWalk
import Derived.Deep.RegionHeld3
import Derived.Maps.AppendAt
/-
 The small functions on hexes (valid coordinates, valid hexes, copying and comparing hexes) return what plain functions on integers say, and change nothing that was there.
-/
namespace Go.Proofs.YtacgknllagdkoaaGreatDoor
open Go.RowKit
/-- Everything that lay in w lies in w' as it was. -/
def Kp (w w':World):Prop:=Below w.heap.size w w'
theorem Kp.refl (w:World):Kp w w:=Below.refl _ _
theorem Kp.trans {a b c:World} (h:Kp a b) (k:Kp b c):Kp a c:=Below.trans h (Below.mono k (Below.size h))
theorem Kp.alloc {a w:World} (h:Kp a w) (o:Obj):Kp a (w.alloc o):=Below.alloc h (Below.size h) o
theorem Kp.drew {a w:World} (h:Kp a w):Kp a w.drew:=Below.drew h
theorem Kp.drewN {a w:World} (h:Kp a w) (n:Nat):Kp a (w.drewN n):=⟨h.os,h.tape,h.output,h.size,h.block⟩
theorem Kp.setCell {a w:World} (h:Kp a w) {p:Addr} (hp:a.heap.size≤p.block) (u:Value):Kp a (w.setCell p u):=Below.setCell h hp u
theorem Kp.cell {W w1:World} (hk:Kp W w1) {p:Addr} {v:Value} (h:W.cell? p=some v):w1.cell? p=some v:=by
 have hlt:p.block<W.heap.size:=by
  rcases Nat.lt_or_ge p.block W.heap.size with hlt | hge
  ·exact hlt
  ·simp [World.cell?,Array.getElem?_eq_none hge] at h
 rw [Below.cell hk hlt,h]
abbrev hx (q r:Int):Value:=.agg #[.int .i64 q,.int .i64 r]
theorem ret_bool {a b:Bool} (h:a=b):Ending.returned (.bool a)=.returned (.bool b):=by rw [h]
theorem ret_int {a b:Int} (h:a=b):Ending.returned (.int .i64 a)=.returned (.int .i64 b):=by rw [h]
end Go.Proofs.YtacgknllagdkoaaGreatDoor
/-
 Names for conjunctions of cells of one block, and the taking of an operation of a drawn region with fewer words.
-/
namespace Go.Proofs.YtacgknllagdkoaaGreatDoor
open Go.RowKit
theorem sA {α:Type} (l:List α) (i:Nat) (x:α):l.toArray.setIfInBounds i x=(l.set i x).toArray:=List.setIfInBounds_toArray ..
theorem sB {α:Type} (y:α) (l:List α) (x:α):(y :: l).set 0 x=x :: l:=List.set_cons_zero
theorem sC {α:Type} (y:α) (l:List α) (i:Nat) (x:α):(y :: l).set (i+1) x=y :: l.set i x:=List.set_cons_succ
section
variable {P:Program} {ops:Array Oper} {Q:Exit→Act→World→Prop} {md:Region.Mode} {S:World→Prop}
/-- An operation that is wanted and yields its value is taken first. -/
theorem tk (i:Nat) (oi:Oper) (v:Value) {fuel:Nat} {listed:Array Bool} {a:Act} {w:World} (hi:ops[i]?=some oi)
  (hk:((Region.noSelect ops && Region.free md ops listed i) && (Region.ready md ops listed).contains i)=true)
  (hQ:∀ c a w,Q (.panic c) (a.put oi.dst v) w→Q (.panic c) a w) (hg:Region.wanted oi (yielded ops a.tmps)=true) (hy:∀ w,S w→(execOp a.eval oi).run P w=.ok (.value v) w) (hS:S w)
  (h:wpAnyH P md ops Q S fuel (listed.setIfInBounds i true) (a.put oi.dst v) w):wpAnyH P md ops Q S (fuel+1) listed a w:=by
 simp only [Bool.and_eq_true] at hk
 exact wpAnyH_take hi hk.1.1 hk.1.2 hk.2 hQ (Or.inl ⟨hg,hy⟩) hS h
/-- One that is not wanted is skipped. -/
theorem tn (i:Nat) (oi:Oper) {fuel:Nat} {listed:Array Bool} {a:Act} {w:World} (hi:ops[i]?=some oi)
  (hk:((Region.noSelect ops && Region.free md ops listed i) && (Region.ready md ops listed).contains i)=true)
  (hQ:∀ c a w,Q (.panic c) (a.put oi.dst undef) w→Q (.panic c) a w) (hg:Region.wanted oi (yielded ops a.tmps)=false) (hS:S w)
  (h:wpAnyH P md ops Q S fuel (listed.setIfInBounds i true) (a.put oi.dst undef) w):wpAnyH P md ops Q S (fuel+1) listed a w:=by
 simp only [Bool.and_eq_true] at hk
 exact wpAnyH_take hi hk.1.1 hk.1.2 hk.2 hQ (Or.inr ⟨hg,rfl⟩) hS h
end
abbrev ce2 (w:World) (q:Nat) (v0 v1:Value):Prop:=w.cell? ⟨q,0,none⟩=some v0∧w.cell? ⟨q,1,none⟩=some v1
abbrev cb2 (w:World) (q:Nat) (v0 v1:Value) (R:Prop):Prop:=w.cell? ⟨q,0,none⟩=some v0∧w.cell? ⟨q,1,none⟩=some v1∧R
abbrev ce3 (w:World) (q:Nat) (v0 v1 v2:Value):Prop:=w.cell? ⟨q,0,none⟩=some v0∧w.cell? ⟨q,1,none⟩=some v1∧w.cell? ⟨q,2,none⟩=some v2
abbrev cb3 (w:World) (q:Nat) (v0 v1 v2:Value) (R:Prop):Prop:=w.cell? ⟨q,0,none⟩=some v0∧w.cell? ⟨q,1,none⟩=some v1∧w.cell? ⟨q,2,none⟩=some v2∧R
abbrev cb4 (w:World) (q:Nat) (v0 v1 v2 v3:Value) (R:Prop):Prop:=w.cell? ⟨q,0,none⟩=some v0∧w.cell? ⟨q,1,none⟩=some v1∧w.cell? ⟨q,2,none⟩=some v2∧w.cell? ⟨q,3,none⟩=some v3∧R
abbrev ce5 (w:World) (q:Nat) (v0 v1 v2 v3 v4:Value):Prop:=w.cell? ⟨q,0,none⟩=some v0∧w.cell? ⟨q,1,none⟩=some v1∧w.cell? ⟨q,2,none⟩=some v2∧w.cell? ⟨q,3,none⟩=some v3∧w.cell? ⟨q,4,none⟩=some v4
abbrev cb5 (w:World) (q:Nat) (v0 v1 v2 v3 v4:Value) (R:Prop):Prop:=w.cell? ⟨q,0,none⟩=some v0∧w.cell? ⟨q,1,none⟩=some v1∧w.cell? ⟨q,2,none⟩=some v2∧w.cell? ⟨q,3,none⟩=some v3∧w.cell? ⟨q,4,none⟩=some v4∧R
abbrev cb6 (w:World) (q:Nat) (v0 v1 v2 v3 v4 v5:Value) (R:Prop):Prop:=w.cell? ⟨q,0,none⟩=some v0∧w.cell? ⟨q,1,none⟩=some v1∧w.cell? ⟨q,2,none⟩=some v2∧w.cell? ⟨q,3,none⟩=some v3∧w.cell? ⟨q,4,none⟩=some v4∧w.cell? ⟨q,5,none⟩=some v5∧R
abbrev cb7 (w:World) (q:Nat) (v0 v1 v2 v3 v4 v5 v6:Value) (R:Prop):Prop:=w.cell? ⟨q,0,none⟩=some v0∧w.cell? ⟨q,1,none⟩=some v1∧w.cell? ⟨q,2,none⟩=some v2∧w.cell? ⟨q,3,none⟩=some v3∧w.cell? ⟨q,4,none⟩=some v4∧w.cell? ⟨q,5,none⟩=some v5∧w.cell? ⟨q,6,none⟩=some v6∧R
abbrev ce12 (w:World) (q:Nat) (v0 v1 v2 v3 v4 v5 v6 v7 v8 v9 v10 v11:Value):Prop:=w.cell? ⟨q,0,none⟩=some v0∧w.cell? ⟨q,1,none⟩=some v1∧w.cell? ⟨q,2,none⟩=some v2∧w.cell? ⟨q,3,none⟩=some v3∧w.cell? ⟨q,4,none⟩=some v4∧w.cell? ⟨q,5,none⟩=some v5∧w.cell? ⟨q,6,none⟩=some v6∧w.cell? ⟨q,7,none⟩=some v7∧w.cell? ⟨q,8,none⟩=some v8∧w.cell? ⟨q,9,none⟩=some v9∧w.cell? ⟨q,10,none⟩=some v10∧w.cell? ⟨q,11,none⟩=some v11
abbrev cb12 (w:World) (q:Nat) (v0 v1 v2 v3 v4 v5 v6 v7 v8 v9 v10 v11:Value) (R:Prop):Prop:=w.cell? ⟨q,0,none⟩=some v0∧w.cell? ⟨q,1,none⟩=some v1∧w.cell? ⟨q,2,none⟩=some v2∧w.cell? ⟨q,3,none⟩=some v3∧w.cell? ⟨q,4,none⟩=some v4∧w.cell? ⟨q,5,none⟩=some v5∧w.cell? ⟨q,6,none⟩=some v6∧w.cell? ⟨q,7,none⟩=some v7∧w.cell? ⟨q,8,none⟩=some v8∧w.cell? ⟨q,9,none⟩=some v9∧w.cell? ⟨q,10,none⟩=some v10∧w.cell? ⟨q,11,none⟩=some v11∧R
abbrev cb14 (w:World) (q:Nat) (v0 v1 v2 v3 v4 v5 v6 v7 v8 v9 v10 v11 v12 v13:Value) (R:Prop):Prop:=w.cell? ⟨q,0,none⟩=some v0∧w.cell? ⟨q,1,none⟩=some v1∧w.cell? ⟨q,2,none⟩=some v2∧w.cell? ⟨q,3,none⟩=some v3∧w.cell? ⟨q,4,none⟩=some v4∧w.cell? ⟨q,5,none⟩=some v5∧w.cell? ⟨q,6,none⟩=some v6∧w.cell? ⟨q,7,none⟩=some v7∧w.cell? ⟨q,8,none⟩=some v8∧w.cell? ⟨q,9,none⟩=some v9∧w.cell? ⟨q,10,none⟩=some v10∧w.cell? ⟨q,11,none⟩=some v11∧w.cell? ⟨q,12,none⟩=some v12∧w.cell? ⟨q,13,none⟩=some v13∧R
abbrev cb16 (w:World) (q:Nat) (v0 v1 v2 v3 v4 v5 v6 v7 v8 v9 v10 v11 v12 v13 v14 v15:Value) (R:Prop):Prop:=w.cell? ⟨q,0,none⟩=some v0∧w.cell? ⟨q,1,none⟩=some v1∧w.cell? ⟨q,2,none⟩=some v2∧w.cell? ⟨q,3,none⟩=some v3∧w.cell? ⟨q,4,none⟩=some v4∧w.cell? ⟨q,5,none⟩=some v5∧w.cell? ⟨q,6,none⟩=some v6∧w.cell? ⟨q,7,none⟩=some v7∧w.cell? ⟨q,8,none⟩=some v8∧w.cell? ⟨q,9,none⟩=some v9∧w.cell? ⟨q,10,none⟩=some v10∧w.cell? ⟨q,11,none⟩=some v11∧w.cell? ⟨q,12,none⟩=some v12∧w.cell? ⟨q,13,none⟩=some v13∧w.cell? ⟨q,14,none⟩=some v14∧w.cell? ⟨q,15,none⟩=some v15∧R
end Go.Proofs.YtacgknllagdkoaaGreatDoor
/-
 Rules as plain data: terrains, kinds, names, and when they are valid, in the program's order and in the reference's. No program is looked into.
-/
namespace Go.Proofs.YtacgknllagdkoaaGreatDoor
open Go.RowKit
structure Ter where
 name:ByteArray
 cost:List Int
 shift:Int
 height:Int
 blocks:Bool
structure Knd where
 name:ByteArray
 str:Int
 mov:Int
 stp:Int
 zone:Bool
 view:Int
structure Rul where
 ters:List Ter
 knds:List Knd
 stack:Int
 river:Int
 road:Int
 supply:Int
 turns:Int
def spB (lo hi n:Int):Bool:=decide (lo≤n) && decide (n≤hi)
def lowB (c:UInt8):Bool:=decide (97≤(c.toNat:Int)) && decide ((c.toNat:Int)≤122)
def lowFrom (l:List UInt8):Bool:=l.all lowB
def nameOk (s:ByteArray):Bool:=spB 1 8 s.size && lowFrom s.data.toList
/-- For each number below n. -/
def allN (n:Nat) (f:Nat→Bool):Bool:=(List.range n).all f
theorem allN_mk {n:Nat} {f:Nat→Bool} (h:∀ j,j<n→f j=true):allN n f=true:=by
 unfold allN
 rw [List.all_eq_true]
 intro x hx
 exact h x (List.mem_range.1 hx)
theorem allN_no {n:Nat} {f:Nat→Bool} {k:Nat} (hk:k<n) (h:f k=false):allN n f=false:=by
 unfold allN
 rw [List.all_eq_false]
 exact⟨k,List.mem_range.2 hk,by simp [h]⟩
theorem allN_at {n:Nat} {f:Nat→Bool} (h:allN n f=true) {j:Nat} (hj:j<n):f j=true:=by
 unfold allN at h
 rw [List.all_eq_true] at h
 exact h j (List.mem_range.2 hj)
theorem allN_iff {n:Nat} {f:Nat→Bool}:allN n f=true ↔ ∀ j,j<n→f j=true:=⟨fun h _ hj=>allN_at h hj,allN_mk⟩
def hasS (l:List ByteArray) (x:ByteArray):Bool:=decide (0≤Lib.idxOfS l x)
theorem hasS_iff (l:List ByteArray) (x:ByteArray):hasS l x=true ↔ x ∈ l:=by
 unfold hasS
 rw [decide_eq_true_iff]
 exact Lib.idxOfS_nonneg_iff l x
theorem hasS_no {l:List ByteArray} {x:ByteArray} (h:x ∉ l):hasS l x=false:=by
 cases e:hasS l x
 ·rfl
 ·exact absurd ((hasS_iff l x).1 e) h
def nameAt (l:List ByteArray) (k:Nat):Bool:=nameOk (l.getD k ByteArray.empty) && !hasS (l.take k) (l.getD k ByteArray.empty)
/-- All names are valid and differ. -/
def namesOk (l:List ByteArray):Bool:=allN l.length (nameAt l)
def numT (nk:Nat) (t:Ter):Bool:=decide (t.cost.length=nk) && (t.cost.all (spB 0 9) && (spB (-3) 3 t.shift && spB 0 3 t.height))
def numK (k:Knd):Bool:=spB 1 9 k.str && (spB 0 9 k.mov && (spB 1 4 k.stp && spB 0 4 k.view))
def limB (a b c d e:Int):Bool:=spB 1 4 a && (spB 0 9 b && (spB 1 9 c && (spB 0 20 d && spB 1 30 e)))
def tNames (l:List Ter):List ByteArray:=l.map (·.name)
def kNames (l:List Knd):List ByteArray:=l.map (·.name)
/-- Valid rules, as the program asks. -/
def rulOk (r:Rul):Bool :=
 (spB 1 6 r.ters.length && (spB 1 4 r.knds.length && limB r.stack r.river r.road r.supply r.turns)) &&
  (r.ters.all (numT r.knds.length) && (r.knds.all numK && (namesOk (tNames r.ters) && namesOk (kNames r.knds))))
/-- The place of a name, or -1. -/
def idxS (l:List ByteArray) (x:ByteArray):Int:=Lib.idxOfS l x
/-- A terrain at its place, as the reference asks. -/
def terAt (l:List Ter) (nk:Nat) (i:Nat) (t:Ter):Bool :=
 nameOk t.name && (decide (idxS (tNames l) t.name=i) && (decide (t.cost.length=nk) && (t.cost.all (spB 0 9) && (spB (-3) 3 t.shift && spB 0 3 t.height))))
def kndAt (l:List Knd) (i:Nat) (k:Knd):Bool :=
 nameOk k.name && (decide (idxS (kNames l) k.name=i) && (spB 1 9 k.str && (spB 0 9 k.mov && (spB 1 4 k.stp && spB 0 4 k.view))))
def terF (l:List Ter) (nk:Nat) (i:Nat):Bool:=match l[i]? with | some t=>terAt l nk i t | none=>true
def kndF (l:List Knd) (i:Nat):Bool:=match l[i]? with | some k=>kndAt l i k | none=>true
theorem terF_at {l:List Ter} {nk i:Nat} {t:Ter} (h:l[i]?=some t):terF l nk i=terAt l nk i t:=by unfold terF;rw [h]
theorem kndF_at {l:List Knd} {i:Nat} {k:Knd} (h:l[i]?=some k):kndF l i=kndAt l i k:=by unfold kndF;rw [h]
theorem firstOf (f:Nat→ByteArray) (x:ByteArray):∀ j,f j=x→∃ m,m≤j∧f m=x∧∀ i,i<m→f i ≠ x:=by
 intro j
 induction j using Nat.strongRecOn with
 | _ j ih =>
  intro h
  by_cases hx:∃ i,i<j∧f i=x
  ·obtain⟨i,hi,e⟩:=hx
   obtain⟨m,hm,em,hf⟩:=ih i hi e
   exact⟨m,by omega,em,hf⟩
  ·exact⟨j,Nat.le_refl _,h,fun i hi e=>hx ⟨i,hi,e⟩⟩
theorem idxS_first {l:List ByteArray} {k:Nat} (hk:k<l.length) (hn:∀ j,j<k→l.getD j ByteArray.empty ≠ l.getD k ByteArray.empty):idxS l (l.getD k ByteArray.empty)=k:=by
 have:=Lib.idxOfS_hit l l.length k (l.getD k ByteArray.empty) hk (Nat.le_refl _) rfl hn
 rwa [List.take_length] at this
theorem idxS_eq {l:List ByteArray} {k:Nat} (hk:k<l.length):decide (idxS l (l.getD k ByteArray.empty)=k)=!hasS (l.take k) (l.getD k ByteArray.empty):=by
 have hgd:∀ j,j<l.length→l[j]?=some (l.getD j ByteArray.empty):=fun j hj=>by simp [List.getD,List.getElem?_eq_getElem hj]
 by_cases hm:l.getD k ByteArray.empty ∈ l.take k
 ·rw [(hasS_iff _ _).2 hm]
  obtain⟨j,hj,e⟩:=List.mem_iff_getElem.1 hm
  have hjk:j<k:=by simp at hj;omega
  have ej:l.getD j ByteArray.empty=l.getD k ByteArray.empty:=by
   rw [← e]
   simp [List.getD,List.getElem?_eq_getElem (show j<l.length by omega)]
  obtain⟨m,hmj,em,hf⟩:=firstOf (fun j=>l.getD j ByteArray.empty) _ j ej
  have em:l.getD m ByteArray.empty=l.getD k ByteArray.empty:=em
  have hf:∀ i,i<m→l.getD i ByteArray.empty ≠ l.getD k ByteArray.empty:=hf
  have h1:idxS l (l.getD m ByteArray.empty)=m:=idxS_first (by omega) (fun j hj=>by rw [em];exact hf j hj)
  rw [em] at h1
  rw [h1]
  have:¬ ((m:Int)=k):=by omega
  simp [this]
 ·rw [hasS_no hm]
  have:=idxS_first hk (fun j hj e=>hm (by
   rw [← e]
   have:(l.take k)[j]?=some (l.getD j ByteArray.empty):=by rw [List.getElem?_take,if_pos hj];exact hgd j (by omega)
   exact List.mem_of_getElem? this))
  rw [decide_eq_true this]
  rfl
theorem tName_at {l:List Ter} {i:Nat} {t:Ter} (h:l[i]?=some t):(tNames l).getD i ByteArray.empty=t.name:=by simp [tNames,List.getD,h]
theorem kName_at {l:List Knd} {i:Nat} {t:Knd} (h:l[i]?=some t):(kNames l).getD i ByteArray.empty=t.name:=by simp [kNames,List.getD,h]
theorem lt_of_at {α:Type} {l:List α} {i:Nat} {t:α} (h:l[i]?=some t):i<l.length:=(List.getElem?_eq_some_iff.1 h).1
theorem terF_parts {l:List Ter} {nk i:Nat} {t:Ter} (h:l[i]?=some t):terF l nk i=(nameAt (tNames l) i && numT nk t):=by
 have e:=idxS_eq (l:=tNames l) (k:=i) (by simpa [tNames] using lt_of_at h)
 rw [tName_at h] at e
 rw [terF_at h]
 unfold terAt nameAt numT
 rw [tName_at h,e,Bool.and_assoc]
theorem kndF_parts {l:List Knd} {i:Nat} {t:Knd} (h:l[i]?=some t):kndF l i=(nameAt (kNames l) i && numK t):=by
 have e:=idxS_eq (l:=kNames l) (k:=i) (by simpa [kNames] using lt_of_at h)
 rw [kName_at h] at e
 rw [kndF_at h]
 unfold kndAt nameAt numK
 rw [kName_at h,e,Bool.and_assoc]
theorem terF_all {l:List Ter} {nk:Nat}:allN l.length (terF l nk)=true ↔ l.all (numT nk)=true∧namesOk (tNames l)=true:=by
 unfold namesOk
 rw [allN_iff,allN_iff,List.all_eq_true]
 have hlen:(tNames l).length=l.length:=by simp [tNames]
 rw [hlen]
 constructor
 ·intro h
  refine⟨fun t ht=>?_,fun j hj=>?_⟩
  ·obtain⟨i,hi,rfl⟩:=List.mem_iff_getElem.1 ht
   have:=h i hi
   rw [terF_parts (List.getElem?_eq_getElem hi),Bool.and_eq_true] at this
   exact this.2
  ·have:=h j hj
   rw [terF_parts (List.getElem?_eq_getElem hj),Bool.and_eq_true] at this
   exact this.1
 ·rintro ⟨h1,h2⟩ j hj
  rw [terF_parts (List.getElem?_eq_getElem hj),Bool.and_eq_true]
  exact⟨h2 j hj,h1 _ (List.getElem_mem hj)⟩
theorem kndF_all {l:List Knd}:allN l.length (kndF l)=true ↔ l.all numK=true∧namesOk (kNames l)=true:=by
 unfold namesOk
 rw [allN_iff,allN_iff,List.all_eq_true]
 have hlen:(kNames l).length=l.length:=by simp [kNames]
 rw [hlen]
 constructor
 ·intro h
  refine⟨fun t ht=>?_,fun j hj=>?_⟩
  ·obtain⟨i,hi,rfl⟩:=List.mem_iff_getElem.1 ht
   have:=h i hi
   rw [kndF_parts (List.getElem?_eq_getElem hi),Bool.and_eq_true] at this
   exact this.2
  ·have:=h j hj
   rw [kndF_parts (List.getElem?_eq_getElem hj),Bool.and_eq_true] at this
   exact this.1
 ·rintro ⟨h1,h2⟩ j hj
  rw [kndF_parts (List.getElem?_eq_getElem hj),Bool.and_eq_true]
  exact⟨h2 j hj,h1 _ (List.getElem_mem hj)⟩
/-- Valid rules, as the reference asks. -/
def rulS (r:Rul):Bool :=
 (spB 1 6 r.ters.length && spB 1 4 r.knds.length) && (allN r.ters.length (terF r.ters r.knds.length) && (allN r.knds.length (kndF r.knds) && limB r.stack r.river r.road r.supply r.turns))
theorem rulS_eq (r:Rul):rulS r=rulOk r:=by
 rw [Bool.eq_iff_iff]
 unfold rulS rulOk
 simp only [Bool.and_eq_true,terF_all,kndF_all]
 constructor
 ·rintro ⟨⟨a,b⟩,⟨c,d⟩,⟨e,f⟩,g⟩
  exact⟨⟨a,b,g⟩,c,e,d,f⟩
 ·rintro ⟨⟨a,b,g⟩,c,e,d,f⟩
  exact⟨⟨a,b⟩,⟨c,d⟩,⟨e,f⟩,g⟩
end Go.Proofs.YtacgknllagdkoaaGreatDoor
/-
 The six directions as plain functions on integers.
-/
namespace Go.Proofs.YtacgknllagdkoaaGreatDoor
open Go.RowKit
def dirQ (d:Int):Int:=if d=0 then 1 else if d=1 then 1 else if d=2 then 0 else if d=3 then -1 else if d=4 then -1 else 0
def dirR (d:Int):Int:=if d=0 then 0 else if d=1 then -1 else if d=2 then -1 else if d=3 then 0 else if d=4 then 1 else 1
theorem dir_bd (d:Int):-1≤dirQ d∧dirQ d≤1∧-1≤dirR d∧dirR d≤1:=by
 unfold dirQ dirR
 repeat' split
 all_goals omega
theorem six {d:Int} (h0:0≤d) (h5:d≤5):d=0∨d=1∨d=2∨d=3∨d=4∨d=5:=by omega
end Go.Proofs.YtacgknllagdkoaaGreatDoor
/-
 More small functions on hexes: differences, shifts, valid or zero, comparing. They return what plain functions on integers say, and change nothing that was there.
-/
namespace Go.Proofs.YtacgknllagdkoaaGreatDoor
open Go.RowKit
def vI (b:Bool) (x:Int):Int:=if b=true then x else 0
abbrev ib (b:Bool) (x:Int):Value:=.tuple #[.int .i64 (vI b x),.bool b]
theorem shifted_any (q r dq dr:Int) (w:World) (h1:-1000≤q) (h2:q≤1000) (h3:-1000≤r) (h4:r≤1000) (h5:-1000≤dq) (h6:dq≤1000) (h7:-1000≤dr) (h8:dr≤1000) :
  Calls Tryz.prog 222 #[hx q r,hx dq dr] w fun e w'=>e=.returned (hx (q+dq) (r+dr))∧Kp w w':=by
 go_enter Tryz.func222,Tryz.ntmps222
 go_wp2
 exact bodyPost_ret (v:=hx (q+dq) (r+dr)) (by simp [results,Tryz.results222,go_sem]) rfl ⟨rfl,(((Kp.refl _).alloc _).alloc _).alloc _⟩
theorem l1In_gen (n lo hi:Int) (w:World) :
  Calls Tryz.prog 63 #[.int .i64 n,.int .i64 lo,.int .i64 hi] w fun e w'=>e=.returned (.bool (decide (lo≤n) && decide (n≤hi)))∧w=w':=by
 by_cases h1:lo≤n
 ·by_cases h2:n≤hi
  ·go_enter Tryz.func63,Tryz.ntmps63
   go_wp2
   go_ret
   exact⟨ret_bool (by simp [h1,h2]),rfl⟩
  ·have d2:decide (n≤hi)=false:=by simpa using h2
   go_enter Tryz.func63,Tryz.ntmps63
   go_wp2
   go_ret
   exact⟨ret_bool (by simp),rfl⟩
 ·have d1:decide (lo≤n)=false:=by simpa using h1
  go_enter Tryz.func63,Tryz.ntmps63
  go_wp2
  go_ret
  exact⟨ret_bool (by simp),rfl⟩
end Go.Proofs.YtacgknllagdkoaaGreatDoor
/-
 Small facts on cells behind stores into another block. No program is looked into.
-/
namespace Go.Proofs.YtacgknllagdkoaaGreatDoor
open Go.RowKit
theorem cell_lt {w:World} {b o:Nat} {v:Value} (h:w.cell? ⟨b,o,none⟩=some v):b<w.heap.size:=by
 rcases Nat.lt_or_ge b w.heap.size with hlt | hge
 ·exact hlt
 ·simp [World.cell?,Array.getElem?_eq_none hge] at h
theorem Kp.liv {W w1:World} (hk:Kp W w1) {p:Addr} {v:Value} (h:W.cell? p=some v∧W.frozen? p=false):w1.cell? p=some v∧w1.frozen? p=false:=by
 have hlt:p.block<W.heap.size:=by
  rcases Nat.lt_or_ge p.block W.heap.size with hlt | hge
  ·exact hlt
  ·have:=h.1
   simp [World.cell?,Array.getElem?_eq_none hge] at this
 exact⟨hk.cell h.1,(Below.frozen hk hlt).trans h.2⟩
end Go.Proofs.YtacgknllagdkoaaGreatDoor
/-
 Slices of hexes as lists of pairs of integers; comparing two that hold the same list, marking one's cells and finding the marks again. Nothing else is changed.
-/
namespace Go.Proofs.YtacgknllagdkoaaGreatDoor
open Go.RowKit
theorem Kp.grown {a w w':World} {row:Option Nat} (h:Kp a w) (hg:w.grownBy w' row) (hr:∀ k,row=some k→a.heap.size≤k):Kp a w':=Below.grown h hg (Below.size h) hr
/-- The slice v owns the list l of hexes, in a block from base on. -/
theorem ownsRow_keep {w w':World} {base:Nat} {e:TypeId} {size:Nat} {v:Value} {n:Nat} {xs:List Value} (h:w.ownsRow base e size v n xs) (hk:Kp w w'):w'.ownsRow base e size v n xs :=
 h.kept (row:=none) ⟨hk.os,hk.tape,hk.output,hk.size,fun k hlt _=>hk.block k hlt⟩ (by cases hv:v.ownBlock <;> simp)
end Go.Proofs.YtacgknllagdkoaaGreatDoor
/-
 Marking the cells of a slice of hexes that the call owns with k, k+1, .., and finding the marks again.
-/
namespace Go.Proofs.YtacgknllagdkoaaGreatDoor
open Go.RowKit
def marks (k0:Int) (m:Nat):List Value:=(List.range m).map fun j:Nat=>.int .i64 (k0+(j:Int))
theorem marks_at (k0:Int) (m j:Nat) (h:j<m):(marks k0 m)[j]?=some (.int .i64 (k0+j)):=by simp [marks,h]
theorem marks_length (k0:Int) (m:Nat):(marks k0 m).length=m:=by simp [marks]
end Go.Proofs.YtacgknllagdkoaaGreatDoor
