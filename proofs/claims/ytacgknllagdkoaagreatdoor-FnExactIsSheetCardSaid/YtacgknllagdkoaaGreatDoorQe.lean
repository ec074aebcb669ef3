/-
 Texts of this seat in one module: MirM, BrdM, ListI, Name, NameB, SpanB.
-/
import Derived.Deep.RegionHeld3
import Derived.Test.YtacgknllagdkoaaGreatDoorQa
import Derived.Test.YtacgknllagdkoaaGreatDoorQb
import Derived.Test.YtacgknllagdkoaaGreatDoorQd
/-
 Mirrored maps as plain numbers and lists: the mirrored index and edge, an insertion into a rising list, and that inserting different numbers one by one is sorting them. No program is looked into.
-/
namespace Go.Proofs.YtacgknllagdkoaaGreatDoor
open Go.RowKit
end Go.Proofs.YtacgknllagdkoaaGreatDoor
/-
 Boards as plain data: when a board is valid, the cost to enter a hex, open hexes, unused and missing terrains, stuck kinds. No program is looked into.
-/
namespace Go.Proofs.YtacgknllagdkoaaGreatDoor
open Go.RowKit
/-- The numbers below n with a property, rising. -/
def filN (f:Nat→Bool):Nat→List Int
 | 0=>[]
 | k+1=>if f k then filN f k++[(k:Int)] else filN f k
theorem filN_yes {f:Nat→Bool} {k:Nat} (h:f k=true):filN f (k+1)=filN f k++[(k:Int)]:=by rw [filN,h];rfl
theorem filN_no {f:Nat→Bool} {k:Nat} (h:f k=false):filN f (k+1)=filN f k:=by rw [filN,h];rfl
theorem filN_len (f:Nat→Bool):∀ k,(filN f k).length≤k
 | 0=>by simp [filN]
 | k+1=>by
  have:=filN_len f k
  cases h:f k
  ·rw [filN_no h];omega
  ·rw [filN_yes h,List.length_append];simp;omega
theorem filN_mem (f:Nat→Bool):∀ k (x:Int),x ∈ filN f k ↔ ∃ j:Nat,j<k∧x=j∧f j=true
 | 0,x=>by simp [filN]
 | k+1,x=>by
  cases h:f k
  ·rw [filN_no h,filN_mem f k x]
   constructor
   ·rintro ⟨j,hj,e,hf⟩;exact⟨j,by omega,e,hf⟩
   ·rintro ⟨j,hj,e,hf⟩
    rcases Nat.lt_or_ge j k with h1 | h1
    ·exact⟨j,h1,e,hf⟩
    ·obtain rfl:j=k:=by omega
     rw [h] at hf;cases hf
  ·rw [filN_yes h,List.mem_append,filN_mem f k x,List.mem_singleton]
   constructor
   ·rintro (⟨j,hj,e,hf⟩ | rfl)
    ·exact⟨j,by omega,e,hf⟩
    ·exact⟨k,by omega,rfl,h⟩
   ·rintro ⟨j,hj,e,hf⟩
    rcases Nat.lt_or_ge j k with h1 | h1
    ·exact .inl ⟨j,h1,e,hf⟩
    ·obtain rfl:j=k:=by omega
     exact .inr e
/-- What a terrain costs a kind. -/
def costT (l:List Ter) (t k:Nat):Int:=(((l[t]?).map (·.cost)).getD [])[k]?.getD 0
/-- What a hex costs a kind. -/
def costB (l:List Ter) (lt:List Int) (k i:Nat):Int:=costT l (lt[i]?.getD 0).toNat k
def opnB (l:List Ter) (lt:List Int) (k i:Nat):Bool:=decide (0<costB l lt k i)
def misB (lt:List Int) (nt n:Nat):Bool:=decide (nt≤n) && hasB lt n
def misL (lt:List Int) (nt:Nat):List Int:=filN (misB lt nt) 6
/-- A valid board. -/
def brdOk (r:Rul) (W H:Int) (lt lr ld:List Int):Bool:=(rulOk r && mapOk W H lt lr ld) && lt.all (spB 0 (r.ters.length - 1))
theorem hasB_iff (l:List Int) (m:Int):hasB l m=true ↔ m ∈ l:=by simp [hasB]
theorem mapOk_terr {W H:Int} {lt lr ld:List Int} (h:mapOk W H lt lr ld=true):∀ x ∈ lt,0≤x∧x≤5:=by
 simp only [mapOk,Bool.and_eq_true,List.all_eq_true] at h
 intro x hx
 have:=h.2.2.2.1 x hx
 simpa [terrB] using this
theorem misL_nil {lt:List Int} {nt:Nat} (hb:∀ x ∈ lt,0≤x∧x≤5):decide (misL lt nt=[])=lt.all (spB 0 ((nt:Int) - 1)):=by
 rw [Bool.eq_iff_iff,decide_eq_true_iff,List.all_eq_true]
 constructor
 ·intro h x hx
  have hbx:=hb x hx
  simp only [spB,Bool.and_eq_true,decide_eq_true_iff]
  refine⟨hbx.1,?_⟩
  by_cases hlt:x≤(nt:Int) - 1
  ·exact hlt
  ·have:x ∈ misL lt nt:=(filN_mem _ _ _).2 ⟨x.toNat,by omega,by omega,by
    simp only [misB,Bool.and_eq_true,decide_eq_true_iff]
    refine⟨by omega,(hasB_iff _ _).2 ?_⟩
    have e:((x.toNat:Nat):Int)=x:=by omega
    rw [e];exact hx⟩
   rw [h] at this
   cases this
 ·intro h
  rw [List.eq_nil_iff_forall_not_mem]
  intro x hx
  obtain⟨j,hj,rfl,hm⟩:=(filN_mem _ _ _).1 hx
  simp only [misB,Bool.and_eq_true,decide_eq_true_iff] at hm
  have:=h _ ((hasB_iff _ _).1 hm.2)
  simp only [spB,Bool.and_eq_true,decide_eq_true_iff] at this
  omega
end Go.Proofs.YtacgknllagdkoaaGreatDoor
/-
 New lists of numbers: none, one more; a call's answer that is a list and whether there is one.
-/
namespace Go.Proofs.YtacgknllagdkoaaGreatDoor
open Go.RowKit
/-- A new list of numbers and true, or none and false. -/
def ListPostI (ok:Bool) (l:List Int) (w:World) (e:Ending) (w':World):Prop :=
 ∃ v,e=.returned (.tuple #[v,.bool ok])∧OwnI w' w.heap.size v (if ok=true then l else [])∧Kp w w'
theorem OwnI.nil (w:World) (base:Nat):OwnI w base (.slice none 0 0) []:=World.ownsRow_nil w base _ 1
theorem ListPostI.no {l:List Int} {w w':World} (hk:Kp w w'):ListPostI false l w (.returned (.tuple #[.slice none 0 0,.bool false])) w':=⟨_,rfl,OwnI.nil _ _,hk⟩
theorem OwnI.snoc {w:World} {base:Nat} {v:Value} {l:List Int} {x:Int} (h:w.ownsRow base 3 1 v (l.length+1) (cellsI l++[.int .i64 x])):OwnI w base v (l++[x]):=by
 unfold OwnI cellsI
 rw [List.map_append,List.length_append]
 exact h
theorem one_cell (w:World) (x:Value) (t:TypeId):∀ j u,[x][j]?=some u→(w.alloc (.cells #[x] t)).cell? ((⟨w.heap.size,0,none⟩:Addr).add j)=some u:=by
 intro j u hj
 match j,hj with
 | 0,hj=>simp at hj;subst hj;simp [Addr.add]
end Go.Proofs.YtacgknllagdkoaaGreatDoor
/-
 Names, the program's test and the reference's; slices of strings as lists: places of a string, whether it is there, and whether all names are valid and differ. Nothing that was there is changed.
-/
namespace Go.Proofs.YtacgknllagdkoaaGreatDoor
open Go.RowKit
theorem low_step {s:ByteArray} {k:Nat} (h:k<s.size):s.data.toList.drop k=s[k] :: s.data.toList.drop (k+1):=by
 rw [List.drop_eq_getElem_cons (by simpa using h)]
 rfl
theorem low_no {c:UInt8} {l:List UInt8} (h:lowB c=false):lowFrom (c :: l)=false:=by simp [lowFrom,h]
theorem low_go {c:UInt8} {l:List UInt8} (h:lowB c=true):lowFrom (c :: l)=lowFrom l:=by simp [lowFrom,h]
set_option maxHeartbeats 400000 in
theorem isName_any (s:ByteArray) (w:World) :
  Calls Tryz.prog 269 #[.string s] w fun e w'=>e=.returned (.bool (nameOk s))∧w=w':=by
 by_cases h0:s.size=0
 ·have e:nameOk s=false:=by simp [nameOk,spB,h0]
  rw [e]
  have h1:s.toList=[]:=by rw [ByteArray.toList_eq];exact List.eq_nil_of_length_eq_zero (by simpa using h0)
  have h2:s=ByteArray.empty:=ByteArray.ext (Array.toList_inj.1 (by rw [ByteArray.toList_eq] at h1;rw [h1];rfl))
  subst h2
  clear h0 h1 e
  go_enter Tryz.func269,Tryz.ntmps269
  go_wp2
  go_ret
  exact⟨rfl,rfl⟩
 ·by_cases h8:8<s.size
  ·have e:nameOk s=false:=by simp [nameOk,spB];omega
   rw [e]
   have hz:((s.size:Int) == 0)=false:=by simpa using h0
   clear e h0
   go_enter Tryz.func269,Tryz.ntmps269
   go_wp2
   go_ret
   exact⟨rfl,rfl⟩
  ·have e:nameOk s=lowFrom s.data.toList:=by
    have:spB 1 8 s.size=true:=by simp [spB];omega
    simp [nameOk,this]
   rw [e]
   obtain⟨R,hR⟩:∃ R,R=lowFrom s.data.toList:=⟨_,rfl⟩
   rw [← hR]
   have HR:=Lib.hid hR
   have hz:((s.size:Int) == 0)=false:=by simpa using h0
   have h8':decide (8<s.size)=false:=by simpa using h8
   clear e hR h0
   go_enter Tryz.func269,Tryz.ntmps269
   go_wp2
   go_loop [3,14] (fun _ i=>∃ k:Nat,k≤s.size∧i=.int .i64 k∧Hid (lowFrom (s.data.toList.drop k)=R)) (fun _ i=>s.size - (intOf i).toNat)
   case atStart=>exact⟨0,by omega,rfl,Lib.hid HR.out.symm⟩
   case round =>
    obtain⟨k,hk,rfl,hE⟩:=hrel
    by_cases hlt:k<s.size
    ·have HX:=Lib.hid (low_step hlt)
     cases hok:lowB s[k]
     ·have HE2:Hid (R=false):=Lib.hid (by rw [← hE.out,HX.out];exact low_no hok)
      have hd:s[k].toNat<97∨122<s[k].toNat:=by simp [lowB] at hok;omega
      clear hok
      rcases hd with hd | hd
      ·go_wp2
       go_ret
       exact⟨ret_bool HE2.out.symm,rfl⟩
      ·have hd2:¬ s[k].toNat<97:=by omega
       go_wp2
       go_ret
       exact⟨ret_bool HE2.out.symm,rfl⟩
     ·have HE2:Hid (lowFrom (s.data.toList.drop (k+1))=R):=Lib.hid (by rw [← hE.out,HX.out];exact(low_go hok).symm)
      have hd:¬ s[k].toNat<97∧¬ 122<s[k].toNat:=by simp [lowB] at hok;omega
      obtain⟨hd1,hd2⟩:=hd
      clear hok
      go_wp2
      go_round
      case rel=>exact⟨k+1,by omega,by go_num,HE2⟩
      case measure=>simp [intOf];omega
    ·obtain rfl:k=s.size:=by omega
     go_wp2
     go_ret
     refine⟨ret_bool ?_,rfl⟩
     rw [← hE.out,List.drop_of_length_le (by simp)]
     rfl
end Go.Proofs.YtacgknllagdkoaaGreatDoor
/-
 The reference's test of a name; slices of strings as lists: the place of a string, whether it is there, and whether all names are valid and differ. Nothing that was there is changed.
-/
namespace Go.Proofs.YtacgknllagdkoaaGreatDoor
open Go.RowKit
set_option maxHeartbeats 400000 in
theorem rName_any (s:ByteArray) (w:World) (hs:s.size≤1048576) :
  Calls Tryz.prog 208 #[.string s] w fun e w'=>e=.returned (.bool (nameOk s))∧w=w':=by
 obtain⟨R,hR⟩:∃ R,R=lowFrom s.data.toList:=⟨_,rfl⟩
 have e:nameOk s=(spB 1 8 s.size && R):=by rw [hR];rfl
 rw [e]
 have HR:=Lib.hid hR
 clear e hR
 go_enter Tryz.func208,Tryz.ntmps208
 go_wp2_with fail
 go_loop [3] (fun i=>∃ k:Nat,k≤s.size∧i=.int .i64 k∧Hid (lowFrom (s.data.toList.drop k)=R)) (fun i=>s.size - (intOf i).toNat)
 case atStart=>exact⟨0,by omega,rfl,Lib.hid HR.out.symm⟩
 case round =>
  obtain⟨k,hk,rfl,hE⟩:=hrel
  by_cases hlt:k<s.size
  ·have HX:=Lib.hid (low_step hlt)
   cases hok:lowB s[k]
   ·have HE2:Hid (R=false):=Lib.hid (by rw [← hE.out,HX.out];exact low_no hok)
    have hd:s[k].toNat<97∨122<s[k].toNat:=by simp [lowB] at hok;omega
    clear hok
    rcases hd with hd | hd
    ·go_wp2_with fail
     go_ret
     exact⟨ret_bool (by rw [HE2.out,Bool.and_false]),rfl⟩
    ·have hd2:¬ s[k].toNat<97:=by omega
     go_wp2_with fail
     go_ret
     exact⟨ret_bool (by rw [HE2.out,Bool.and_false]),rfl⟩
   ·have HE2:Hid (lowFrom (s.data.toList.drop (k+1))=R):=Lib.hid (by rw [← hE.out,HX.out];exact(low_go hok).symm)
    have hd:¬ s[k].toNat<97∧¬ 122<s[k].toNat:=by simp [lowB] at hok;omega
    obtain⟨hd1,hd2⟩:=hd
    clear hok
    go_wp2_with fail
    go_round
    case rel=>exact⟨k+1,by omega,by go_num,HE2⟩
    case measure=>simp [intOf];omega
  ·obtain rfl:k=s.size:=by omega
   have HR1:Hid (R=true):=Lib.hid (by
    rw [← hE.out,List.drop_of_length_le (by simp)]
    rfl)
   go_wp2_with fail
   refine(l1In_sp _ _ _ _).mono ?_
   rintro e w1 ⟨rfl,rfl⟩
   go_wp2_with fail
   go_ret
   exact⟨ret_bool (by rw [HR1.out,Bool.and_true]),rfl⟩
/-- The slice v reads as the list l of strings. -/
def RdS (w:World) (v:Value) (l:List ByteArray):Prop :=
 ∃ A c,v=.slice A l.length c∧(0<l.length→∃ g off,A=some ⟨g,off,none⟩∧∀ i x,l[i]?=some x→w.cell? ⟨g,off+i,none⟩=some (.string x))
theorem getD_of {l:List ByteArray} {k:Nat} {x:ByteArray} (h:l[k]?=some x):l.getD k ByteArray.empty=x:=by simp [List.getD,h]
theorem idxS_hit {l:List ByteArray} {k:Nat} {x:ByteArray} (h:l[k]?=some x) (hn:∀ j,j<k→l.getD j ByteArray.empty ≠ x):idxS l x=k:=by
 have:=idxS_first (l:=l) (k:=k) (lt_of_at h) (fun j hj=>by rw [getD_of h];exact hn j hj)
 rwa [getD_of h] at this
theorem idxS_miss {l:List ByteArray} {x:ByteArray} (hn:∀ j,j<l.length→l.getD j ByteArray.empty ≠ x):idxS l x=-1:=by
 have:=Lib.idxOfS_miss l l.length x hn
 rwa [List.take_length] at this
theorem not_more {l:List ByteArray} {k:Nat} {x m:ByteArray} (h:l[k]?=some x) (hne:x ≠ m) (hn:∀ j,j<k→l.getD j ByteArray.empty ≠ m):∀ j,j<k+1→l.getD j ByteArray.empty ≠ m:=fun j hj=>by
 rcases Nat.lt_or_ge j k with h1 | h1
 ·exact hn j h1
 ·obtain rfl:j=k:=by omega
  rw [getD_of h]
  exact hne
theorem indexS_any (v:Value) (l:List ByteArray) (m:ByteArray) (w:World) (h:RdS w v l) (hl:l.length≤1048576) :
  Calls Tryz.prog 283 #[v,.string m] w fun e w'=>e=.returned (.int .i64 (idxS l m))∧w=w':=by
 obtain⟨A,cp,rfl,h⟩:=h
 have HA:=Lib.hid h
 obtain⟨R,hR⟩:∃ R,R=idxS l m:=⟨_,rfl⟩
 rw [← hR]
 have HR:=Lib.hid hR
 clear h hR
 generalize hn:l.length=n at *
 have HN:=Lib.hid hn
 clear hn
 go_enter Tryz.func283,Tryz.ntmps283
 go_wp2_with fail
 go_loop [5,8] (fun _ i=>∃ k:Nat,k≤n∧i=.int .i64 k∧Hid (∀ j,j<k→l.getD j ByteArray.empty ≠ m)) (fun _ i=>n - (intOf i).toNat)
 case atStart=>exact⟨0,by omega,rfl,Lib.hid fun j hj=>absurd hj (by omega)⟩
 case round =>
  obtain⟨k,hk,rfl,hE⟩:=hrel
  by_cases hlt:k<n
  ·obtain⟨g,off,rfl,hc⟩:=HA.out (by omega)
   obtain⟨x,hx⟩:∃ x,l[k]?=some x:=⟨l[k]'(by have:=HN.out;omega),List.getElem?_eq_getElem _⟩
   have a0:=hc k x hx
   have HX:=Lib.hid hx
   clear hc hx
   have hlt':(k:Int)<n:=by omega
   by_cases hok:x=m
   ·have HE2:Hid (R=(k:Int)):=Lib.hid (by rw [HR.out];exact idxS_hit (by rw [← hok];exact HX.out) hE.out)
    have he:(m.toList == x.toList)=true:=(Lib.bytes_beq_iff m x).2 hok.symm
    clear hok
    go_wp2_with fail
    go_ret
    exact⟨ret_int HE2.out.symm,rfl⟩
   ·have HE2:=Lib.hid (not_more HX.out hok hE.out)
    have he:(m.toList == x.toList)=false:=(Lib.bytes_beq_false_iff m x).2 (fun e=>hok e.symm)
    clear hok
    go_wp2_with fail
    go_round
    case rel=>exact⟨k+1,by omega,by go_num,HE2⟩
    case measure=>simp [intOf];omega
  ·obtain rfl:k=n:=by omega
   go_wp2_with fail
   go_ret
   refine⟨ret_int ?_,rfl⟩
   rw [HR.out,idxS_miss (fun j hj=>hE.out j (by have:=HN.out;omega))]
theorem containsS_any (v:Value) (l:List ByteArray) (m:ByteArray) (w:World) (h:RdS w v l) (hl:l.length≤1048576) :
  Calls Tryz.prog 270 #[v,.string m] w fun e w'=>e=.returned (.bool (hasS l m))∧w=w':=by
 obtain⟨R,hR⟩:∃ R,R=idxS l m:=⟨_,rfl⟩
 have e:hasS l m=decide (0≤R):=by rw [hR];rfl
 have C:=indexS_any v l m w h hl
 rw [← hR] at C
 rw [e]
 have HC:=Lib.hid C
 clear hR C h e
 go_enter Tryz.func270,Tryz.ntmps270
 go_wp2_with fail
 refine HC.out.mono ?_
 rintro e w1 ⟨rfl,rfl⟩
 go_wp2_with fail
 go_ret
 exact⟨rfl,rfl⟩
theorem nameAt_of {l:List ByteArray} {k:Nat} {x:ByteArray} (h:l[k]?=some x):nameAt l k=(nameOk x && !hasS (l.take k) x):=by unfold nameAt;rw [getD_of h]
theorem names_more {l:List ByteArray} {k:Nat} (h:nameAt l k=true) (hn:∀ j,j<k→nameAt l j=true):∀ j,j<k+1→nameAt l j=true:=fun j hj=>by
 rcases Nat.lt_or_ge j k with h1 | h1
 ·exact hn j h1
 ·obtain rfl:j=k:=by omega
  exact h
theorem rdS_take {w:World} {l:List ByteArray} {g off k c:Nat} (hk:k≤l.length) (hc:∀ i x,l[i]?=some x→w.cell? ⟨g,off+i,none⟩=some (.string x)):RdS w (.slice (some ⟨g,off,none⟩) k c) (l.take k):=by
 have e:(l.take k).length=k:=by rw [List.length_take];omega
 refine⟨some ⟨g,off,none⟩,c,by rw [e],fun _=>⟨g,off,rfl,fun i x hx=>?_⟩⟩
 rw [List.getElem?_take] at hx
 split at hx
 ·exact hc i x hx
 ·cases hx
set_option maxHeartbeats 1000000 in
theorem areNames_any (A:Option Addr) (n c:Nat) (l:List ByteArray) (w:World) (hn:l.length=n) (h:RdS w (.slice A n c) l) (hl:n≤1048576) (hnc:n≤c) (hcc:c≤9223372036854775807) :
  Calls Tryz.prog 242 #[.slice A n c] w fun e w'=>e=.returned (.bool (namesOk l))∧w=w':=by
 have HA:Hid (0<n→∃ g off,A=some ⟨g,off,none⟩∧∀ i x,l[i]?=some x→w.cell? ⟨g,off+i,none⟩=some (.string x)):=Lib.hid (by
  obtain⟨A',c',e,h⟩:=h
  simp only [Value.slice.injEq] at e
  obtain⟨rfl,_,_⟩:=e
  rw [hn] at h
  exact h)
 obtain⟨R,hR⟩:∃ R,R=namesOk l:=⟨_,rfl⟩
 rw [← hR]
 have HR:=Lib.hid hR
 have HN:=Lib.hid hn
 clear h hR hn
 go_enter Tryz.func242,Tryz.ntmps242
 go_wp2_with fail
 go_loop [3,4,7] (fun _ _ i=>∃ k:Nat,k≤n∧i=.int .i64 k∧Hid (∀ j,j<k→nameAt l j=true)) (fun _ _ i=>n - (intOf i).toNat)
 case atStart=>exact⟨0,by omega,rfl,Lib.hid fun j hj=>absurd hj (by omega)⟩
 case round =>
  obtain⟨k,hk,rfl,hE⟩:=hrel
  by_cases hlt:k<n
  ·obtain⟨g,off,rfl,hc⟩:=HA.out (by omega)
   obtain⟨x,hx⟩:∃ x,l[k]?=some x:=⟨l[k]'(by have:=HN.out;omega),List.getElem?_eq_getElem _⟩
   have a0:=hc k x hx
   have HX:=Lib.hid hx
   have HT:=Lib.hid (rdS_take (w:=w) (l:=l) (g:=g) (off:=off) (k:=k) (c:=c) (by have:=HN.out;omega) hc)
   have hlT:(l.take k).length≤1048576:=by rw [List.length_take];omega
   clear hc hx
   have hlt':(k:Int)<n:=by omega
   cases h1:nameOk x
   ·have HE2:Hid (R=false):=Lib.hid (by rw [HR.out];unfold namesOk;exact allN_no (k:=k) (by have:=HN.out;omega) (by rw [nameAt_of HX.out,h1];rfl))
    go_wp2_with fail
    refine(isName_any _ _).mono ?_
    rintro e w1 ⟨rfl,rfl⟩
    go_wp2_with fail
    go_ret
    exact⟨ret_bool HE2.out.symm,rfl⟩
   ·cases h2:hasS (l.take k) x
    ·have HE2:=Lib.hid (names_more (by rw [nameAt_of HX.out,h1,h2];rfl) hE.out)
     go_wp2_with fail
     refine(isName_any _ _).mono ?_
     rintro e w1 ⟨rfl,rfl⟩
     go_wp2_with fail
     refine(containsS_any _ (l.take k) _ _ HT.out hlT).mono ?_
     rintro e w1 ⟨rfl,rfl⟩
     go_wp2_with fail
     go_round
     case rel=>exact⟨k+1,by omega,by go_num,HE2⟩
     case measure=>simp [intOf];omega
    ·have HE2:Hid (R=false):=Lib.hid (by rw [HR.out];unfold namesOk;exact allN_no (k:=k) (by have:=HN.out;omega) (by rw [nameAt_of HX.out,h1,h2];rfl))
     go_wp2_with fail
     refine(isName_any _ _).mono ?_
     rintro e w1 ⟨rfl,rfl⟩
     go_wp2_with fail
     refine(containsS_any _ (l.take k) _ _ HT.out hlT).mono ?_
     rintro e w1 ⟨rfl,rfl⟩
     go_wp2_with fail
     go_ret
     exact⟨ret_bool HE2.out.symm,rfl⟩
  ·obtain rfl:k=n:=by omega
   go_wp2_with fail
   go_ret
   refine⟨ret_bool ?_,rfl⟩
   rw [HR.out]
   unfold namesOk
   exact(allN_mk fun j hj=>hE.out j (by have:=HN.out;omega)).symm
end Go.Proofs.YtacgknllagdkoaaGreatDoor
/-
 A range of permitted numbers: whether a number lies in it, and a variable that holds one.
-/
namespace Go.Proofs.YtacgknllagdkoaaGreatDoor
open Go.RowKit
theorem has_any (lo hi n:Int) (w:World) :
  Calls Tryz.prog 69 #[.agg #[.int .i64 lo,.int .i64 hi],.int .i64 n] w fun e w'=>e=.returned (.bool (spB lo hi n))∧Kp w w':=by
 by_cases h1:lo≤n
 ·by_cases h2:n≤hi
  ·go_enter Tryz.func69,Tryz.ntmps69
   go_wp2
   go_ret
   exact⟨ret_bool (by simp [spB,h1,h2]),(Kp.refl _).alloc _⟩
  ·have hd:decide (n≤hi)=false:=by simpa using h2
   go_enter Tryz.func69,Tryz.ntmps69
   go_wp2
   go_ret
   exact⟨ret_bool (by simp [spB];omega),(Kp.refl _).alloc _⟩
 ·have hd:decide (lo≤n)=false:=by simpa using h1
  go_enter Tryz.func69,Tryz.ntmps69
  go_wp2
  go_ret
  exact⟨ret_bool (by simp [spB];omega),(Kp.refl _).alloc _⟩
def SpanAt (w:World) (g:Nat) (lo hi:Int):Prop:=ce2 w g (.int .i64 lo) (.int .i64 hi)
end Go.Proofs.YtacgknllagdkoaaGreatDoor
