/-
 Texts of this seat in one module: BrdJ, BrdK, SzP, RulL, TabV, Tab, RdS, MapW.
-/
import Derived.Test.YtacgknllagdkoaaGreatDoorCards
import Derived.Test.YtacgknllagdkoaaGreatDoorTie
import Derived.Deep.DeepHandedRow
import Derived.Lib.LaidTab
import Derived.FnData
import Derived.Lib.SmallJoins
import Derived.Deep.Fields
import Derived.Deep.Slices
import Derived.Test.YtacgknllagdkoaaGreatDoorQa
import Derived.Test.YtacgknllagdkoaaGreatDoorQb
import Derived.Test.YtacgknllagdkoaaGreatDoorQc
import Derived.Test.YtacgknllagdkoaaGreatDoorQd
import Derived.Test.YtacgknllagdkoaaGreatDoorQe
import Derived.Test.YtacgknllagdkoaaGreatDoorQg
import Derived.Test.YtacgknllagdkoaaGreatDoorQi
/-
 Boards: a kind and a place that are there, the cost to enter a hex, open hexes, unused terrains: the program's functions and the reference's. Nothing that was there is changed. The named variables hold what the program's text lays.
-/
namespace Go.Proofs.YtacgknllagdkoaaGreatDoor
open Go.RowKit
theorem inB_at {n:Int} {h:Nat} (hh:inB n h=true):∃ k:Nat,n=k∧k<h:=by
 simp only [inB,Bool.and_eq_true,decide_eq_true_iff] at hh
 exact⟨n.toNat,by omega,by omega⟩
theorem onI_at {W H i:Int} {n:Nat} (hh:onI W H i=true) (hn:(n:Int)=W*H):∃ k:Nat,i=k∧k<n:=by
 obtain⟨h0,h1⟩:=onI_true hh
 exact⟨i.toNat,by omega,by omega⟩
theorem brdOk_map {r:Rul} {W H:Int} {lt lr ld:List Int} (h:brdOk r W H lt lr ld=true):mapOk W H lt lr ld=true:=by
 simp only [brdOk,Bool.and_eq_true] at h
 exact h.1.2
theorem mapOk_len {W H:Int} {lt lr ld:List Int} (h:mapOk W H lt lr ld=true):(lt.length:Int)=W*H:=by
 simp only [mapOk,Bool.and_eq_true,decide_eq_true_iff] at h
 exact h.2.2.1
theorem isKind_any (A:Value) (Ak:Option Addr) (nk ck:Nat) (a b c d e k:Int) (w:World) :
  Calls Tryz.prog 215 #[rv A (.slice Ak nk ck) a b c d e,.int .i64 k] w fun e' w'=>e'=.returned (.bool (inB k nk))∧Kp w w':=by
 by_cases h1:0≤k
 ·by_cases h2:k<nk
  ·go_enter Tryz.func215,Tryz.ntmps215
   go_wp2_with fail
   go_ret
   exact⟨ret_bool (by simp [inB,h1,h2]),(Kp.refl w).alloc _⟩
  ·have d2:decide (k<(nk:Int))=false:=by simpa using h2
   go_enter Tryz.func215,Tryz.ntmps215
   go_wp2_with fail
   go_ret
   exact⟨ret_bool (by simp [inB];omega),(Kp.refl w).alloc _⟩
 ·have d1:decide (0≤k)=false:=by simpa using h1
  go_enter Tryz.func215,Tryz.ntmps215
  go_wp2_with fail
  go_ret
  exact⟨ret_bool (by simp [inB];omega),(Kp.refl w).alloc _⟩
set_option maxRecDepth 100000 in
set_option maxHeartbeats 4000000 in
theorem isOpen_any (At Ak:Option Addr) (nt nk ct ck:Nat) (l:List Ter) (m:List Knd) (a b c d e W H:Int) (x r y:Value) (lt lr ld:List Int) (k i:Nat) (w:World) (hB:BrdAt w At Ak nt nk l m x r y lt lr ld) (hok:brdOk ⟨l,m,a,b,c,d,e⟩ W H lt lr ld=true) (hk:k<m.length) (hi:i<lt.length) :
  Calls Tryz.prog 206 #[bv (.slice At nt ct) (.slice Ak nk ck) a b c d e W H x r y,.int .i64 (k:Int),.int .i64 (i:Int)] w fun e' w'=>e'=.returned (.bool (opnB l lt k i))∧Kp w w':=by
 have KA:Kp w (w.alloc (.cells #[.slice At nt ct,.slice Ak nk ck,.int .i64 a,.int .i64 b,.int .i64 c,.int .i64 d,.int .i64 e,.int .i64 W,.int .i64 H,x,r,y] 47)):=(Kp.refl w).alloc _
 have C1:=Lib.hid (enterCost_any At Ak nt nk ct ck l m a b c d e W H x r y lt lr ld k i _ (hB.keep KA) hok hk hi)
 obtain⟨_,_,z,_,_,_,_,_,h6,h7,_⟩:=brd_hex hok hk hi
 have e:opnB l lt k i=(costB l lt k i != 0):=by
  unfold opnB
  rw [h6,Bool.eq_iff_iff]
  simp
  omega
 rw [e]
 generalize costB l lt k i=X at C1 ⊢
 clear hB hok hk hi h6 h7 e
 go_enter Tryz.func206,Tryz.ntmps206
 go_wp2_with fail
 refine C1.out.mono ?_
 rintro e1 w1 ⟨rfl,k1⟩
 go_wp2_with fail
 go_ret
 exact⟨rfl,KA.trans k1⟩
set_option maxRecDepth 100000 in
set_option maxHeartbeats 4000000 in
theorem bTerrain_full (At Ak:Option Addr) (nt nk ct ck:Nat) (l:List Ter) (m:List Knd) (a b c d e W H:Int) (x r y:Value) (lt lr ld:List Int) (k i:Nat) (w:World) (hB:BrdAt w At Ak nt nk l m x r y lt lr ld) (hok:brdOk ⟨l,m,a,b,c,d,e⟩ W H lt lr ld=true) (hk:k<m.length) (hi:i<lt.length) :
  Calls Tryz.prog 212 #[bv (.slice At nt ct) (.slice Ak nk ck) a b c d e W H x r y,.int .i64 (i:Int)] w fun e' w'=>∃ (nm:ByteArray) (g o n c:Nat) (s:Int) (t:Ter),terN l lt i=some t∧e'=.returned (tv nm (some ⟨g,o,none⟩) n c s t.height t.blocks)∧k<n∧w'.cell? ⟨g,o+k,none⟩=some (.int .i64 (costB l lt k i))∧Kp w w':=by
 obtain⟨T,t,z,h1,h2,h3,h4,h5,h6,_,_⟩:=brd_hex hok hk hi
 rw [h6]
 obtain⟨Bx,bx,rfl,hrt⟩:=hB.L.rt
 obtain⟨gx,ox,rfl,hcx⟩:=hrt (by omega)
 have q1:=hcx i _ h1
 obtain⟨hl,hrT⟩:=hB.R.rt
 obtain⟨gt,ot,rfl,hct⟩:=hrT (by omega)
 obtain⟨Ac,cc,⟨u0,q2,u2,u3,u4⟩,hrc⟩:=hct T t h3
 obtain⟨Ac',cc',ec,hrc'⟩:=hrc
 simp only [Value.slice.injEq] at ec
 obtain⟨rfl,_,rfl⟩:=ec
 obtain⟨gc,oc,rfl,hcc⟩:=hrc' (by omega)
 have q3:=hcc k _ h5
 have hbt:=hB.L.bt
 have hbc:=(hB.R.bc t (List.mem_of_getElem? h3)).1
 have hbn:=hB.R.bt
 have hter:terN l lt i=some t:=by
  unfold terN
  rw [h1]
  simpa using h3
 obtain⟨nm,cs,sh,hg,bl⟩:=t
 have HT0:=Lib.hid hter
 clear hter
 simp only at u0 q2 u2 u3 u4 h4 hbc
 generalize cs.length=nc at q2 h4 hbc
 generalize lt.length=mt at hi hbt
 have f1:T<nt:=by omega
 have f2:k<nc:=by omega
 clear hB hok hrt hcx hrT hct hrc' hcc h1 h3 h5 h6 hl h2 h4 hk
 go_enter Tryz.func212,Tryz.ntmps212
 go_wp2_with fail
 have KA:Kp w ((w.alloc (.cells #[.slice (some ⟨gt,ot,none⟩) nt ct,.slice Ak nk ck,.int .i64 a,.int .i64 b,.int .i64 c,.int .i64 d,.int .i64 e,.int .i64 W,.int .i64 H,.slice (some ⟨gx,ox,none⟩) mt bx,r,y] 47)).alloc (.cells #[.string ByteArray.empty,.slice none 0 0,.int .i64 0,.int .i64 0,.bool false] 230)):=((Kp.refl w).alloc _).alloc _
 have s0:((w.alloc (.cells #[.slice (some ⟨gt,ot,none⟩) nt ct,.slice Ak nk ck,.int .i64 a,.int .i64 b,.int .i64 c,.int .i64 d,.int .i64 e,.int .i64 W,.int .i64 H,.slice (some ⟨gx,ox,none⟩) mt bx,r,y] 47)).alloc (.cells #[.string ByteArray.empty,.slice none 0 0,.int .i64 0,.int .i64 0,.bool false] 230)).drew.cell? ⟨w.heap.size,0,none⟩=some (.slice (some ⟨gt,ot,none⟩) nt ct)∧((w.alloc (.cells #[.slice (some ⟨gt,ot,none⟩) nt ct,.slice Ak nk ck,.int .i64 a,.int .i64 b,.int .i64 c,.int .i64 d,.int .i64 e,.int .i64 W,.int .i64 H,.slice (some ⟨gx,ox,none⟩) mt bx,r,y] 47)).alloc (.cells #[.string ByteArray.empty,.slice none 0 0,.int .i64 0,.int .i64 0,.bool false] 230)).drew.cell? ⟨w.heap.size,9,none⟩=some (.slice (some ⟨gx,ox,none⟩) mt bx)∧((w.alloc (.cells #[.slice (some ⟨gt,ot,none⟩) nt ct,.slice Ak nk ck,.int .i64 a,.int .i64 b,.int .i64 c,.int .i64 d,.int .i64 e,.int .i64 W,.int .i64 H,.slice (some ⟨gx,ox,none⟩) mt bx,r,y] 47)).alloc (.cells #[.string ByteArray.empty,.slice none 0 0,.int .i64 0,.int .i64 0,.bool false] 230)).drew.cell? ⟨gx,ox+i,none⟩=some (.int .i64 (T:Int))∧((w.alloc (.cells #[.slice (some ⟨gt,ot,none⟩) nt ct,.slice Ak nk ck,.int .i64 a,.int .i64 b,.int .i64 c,.int .i64 d,.int .i64 e,.int .i64 W,.int .i64 H,.slice (some ⟨gx,ox,none⟩) mt bx,r,y] 47)).alloc (.cells #[.string ByteArray.empty,.slice none 0 0,.int .i64 0,.int .i64 0,.bool false] 230)).drew.cell? ⟨gt,ot+T*5,none⟩=some (.string nm)∧((w.alloc (.cells #[.slice (some ⟨gt,ot,none⟩) nt ct,.slice Ak nk ck,.int .i64 a,.int .i64 b,.int .i64 c,.int .i64 d,.int .i64 e,.int .i64 W,.int .i64 H,.slice (some ⟨gx,ox,none⟩) mt bx,r,y] 47)).alloc (.cells #[.string ByteArray.empty,.slice none 0 0,.int .i64 0,.int .i64 0,.bool false] 230)).drew.cell? ⟨gt,ot+T*5+1,none⟩=some (.slice (some ⟨gc,oc,none⟩) nc cc)∧((w.alloc (.cells #[.slice (some ⟨gt,ot,none⟩) nt ct,.slice Ak nk ck,.int .i64 a,.int .i64 b,.int .i64 c,.int .i64 d,.int .i64 e,.int .i64 W,.int .i64 H,.slice (some ⟨gx,ox,none⟩) mt bx,r,y] 47)).alloc (.cells #[.string ByteArray.empty,.slice none 0 0,.int .i64 0,.int .i64 0,.bool false] 230)).drew.cell? ⟨gt,ot+T*5+2,none⟩=some (.int .i64 sh)∧((w.alloc (.cells #[.slice (some ⟨gt,ot,none⟩) nt ct,.slice Ak nk ck,.int .i64 a,.int .i64 b,.int .i64 c,.int .i64 d,.int .i64 e,.int .i64 W,.int .i64 H,.slice (some ⟨gx,ox,none⟩) mt bx,r,y] 47)).alloc (.cells #[.string ByteArray.empty,.slice none 0 0,.int .i64 0,.int .i64 0,.bool false] 230)).drew.cell? ⟨gt,ot+T*5+3,none⟩=some (.int .i64 hg)∧((w.alloc (.cells #[.slice (some ⟨gt,ot,none⟩) nt ct,.slice Ak nk ck,.int .i64 a,.int .i64 b,.int .i64 c,.int .i64 d,.int .i64 e,.int .i64 W,.int .i64 H,.slice (some ⟨gx,ox,none⟩) mt bx,r,y] 47)).alloc (.cells #[.string ByteArray.empty,.slice none 0 0,.int .i64 0,.int .i64 0,.bool false] 230)).drew.cell? ⟨gt,ot+T*5+4,none⟩=some (.bool bl)∧((w.alloc (.cells #[.slice (some ⟨gt,ot,none⟩) nt ct,.slice Ak nk ck,.int .i64 a,.int .i64 b,.int .i64 c,.int .i64 d,.int .i64 e,.int .i64 W,.int .i64 H,.slice (some ⟨gx,ox,none⟩) mt bx,r,y] 47)).alloc (.cells #[.string ByteArray.empty,.slice none 0 0,.int .i64 0,.int .i64 0,.bool false] 230)).drew.cell? ⟨gc,oc+k,none⟩=some (.int .i64 z):=⟨by simp [go_sem],by simp [go_sem],KA.cell q1,KA.cell u0,KA.cell q2,KA.cell u2,KA.cell u3,KA.cell u4,KA.cell q3⟩
 have KB:Kp w ((w.alloc (.cells #[.slice (some ⟨gt,ot,none⟩) nt ct,.slice Ak nk ck,.int .i64 a,.int .i64 b,.int .i64 c,.int .i64 d,.int .i64 e,.int .i64 W,.int .i64 H,.slice (some ⟨gx,ox,none⟩) mt bx,r,y] 47)).alloc (.cells #[.string nm,.slice (some ⟨gc,oc,none⟩) nc cc,.int .i64 sh,.int .i64 hg,.bool bl] 230)):=((Kp.refl w).alloc _).alloc _
 have s1:((w.alloc (.cells #[.slice (some ⟨gt,ot,none⟩) nt ct,.slice Ak nk ck,.int .i64 a,.int .i64 b,.int .i64 c,.int .i64 d,.int .i64 e,.int .i64 W,.int .i64 H,.slice (some ⟨gx,ox,none⟩) mt bx,r,y] 47)).alloc (.cells #[.string nm,.slice (some ⟨gc,oc,none⟩) nc cc,.int .i64 sh,.int .i64 hg,.bool bl] 230)).drew.cell? ⟨w.heap.size,0,none⟩=some (.slice (some ⟨gt,ot,none⟩) nt ct)∧((w.alloc (.cells #[.slice (some ⟨gt,ot,none⟩) nt ct,.slice Ak nk ck,.int .i64 a,.int .i64 b,.int .i64 c,.int .i64 d,.int .i64 e,.int .i64 W,.int .i64 H,.slice (some ⟨gx,ox,none⟩) mt bx,r,y] 47)).alloc (.cells #[.string nm,.slice (some ⟨gc,oc,none⟩) nc cc,.int .i64 sh,.int .i64 hg,.bool bl] 230)).drew.cell? ⟨w.heap.size,9,none⟩=some (.slice (some ⟨gx,ox,none⟩) mt bx)∧((w.alloc (.cells #[.slice (some ⟨gt,ot,none⟩) nt ct,.slice Ak nk ck,.int .i64 a,.int .i64 b,.int .i64 c,.int .i64 d,.int .i64 e,.int .i64 W,.int .i64 H,.slice (some ⟨gx,ox,none⟩) mt bx,r,y] 47)).alloc (.cells #[.string nm,.slice (some ⟨gc,oc,none⟩) nc cc,.int .i64 sh,.int .i64 hg,.bool bl] 230)).drew.cell? ⟨gx,ox+i,none⟩=some (.int .i64 (T:Int))∧((w.alloc (.cells #[.slice (some ⟨gt,ot,none⟩) nt ct,.slice Ak nk ck,.int .i64 a,.int .i64 b,.int .i64 c,.int .i64 d,.int .i64 e,.int .i64 W,.int .i64 H,.slice (some ⟨gx,ox,none⟩) mt bx,r,y] 47)).alloc (.cells #[.string nm,.slice (some ⟨gc,oc,none⟩) nc cc,.int .i64 sh,.int .i64 hg,.bool bl] 230)).drew.cell? ⟨gt,ot+T*5,none⟩=some (.string nm)∧((w.alloc (.cells #[.slice (some ⟨gt,ot,none⟩) nt ct,.slice Ak nk ck,.int .i64 a,.int .i64 b,.int .i64 c,.int .i64 d,.int .i64 e,.int .i64 W,.int .i64 H,.slice (some ⟨gx,ox,none⟩) mt bx,r,y] 47)).alloc (.cells #[.string nm,.slice (some ⟨gc,oc,none⟩) nc cc,.int .i64 sh,.int .i64 hg,.bool bl] 230)).drew.cell? ⟨gt,ot+T*5+1,none⟩=some (.slice (some ⟨gc,oc,none⟩) nc cc)∧((w.alloc (.cells #[.slice (some ⟨gt,ot,none⟩) nt ct,.slice Ak nk ck,.int .i64 a,.int .i64 b,.int .i64 c,.int .i64 d,.int .i64 e,.int .i64 W,.int .i64 H,.slice (some ⟨gx,ox,none⟩) mt bx,r,y] 47)).alloc (.cells #[.string nm,.slice (some ⟨gc,oc,none⟩) nc cc,.int .i64 sh,.int .i64 hg,.bool bl] 230)).drew.cell? ⟨gt,ot+T*5+2,none⟩=some (.int .i64 sh)∧((w.alloc (.cells #[.slice (some ⟨gt,ot,none⟩) nt ct,.slice Ak nk ck,.int .i64 a,.int .i64 b,.int .i64 c,.int .i64 d,.int .i64 e,.int .i64 W,.int .i64 H,.slice (some ⟨gx,ox,none⟩) mt bx,r,y] 47)).alloc (.cells #[.string nm,.slice (some ⟨gc,oc,none⟩) nc cc,.int .i64 sh,.int .i64 hg,.bool bl] 230)).drew.cell? ⟨gt,ot+T*5+3,none⟩=some (.int .i64 hg)∧((w.alloc (.cells #[.slice (some ⟨gt,ot,none⟩) nt ct,.slice Ak nk ck,.int .i64 a,.int .i64 b,.int .i64 c,.int .i64 d,.int .i64 e,.int .i64 W,.int .i64 H,.slice (some ⟨gx,ox,none⟩) mt bx,r,y] 47)).alloc (.cells #[.string nm,.slice (some ⟨gc,oc,none⟩) nc cc,.int .i64 sh,.int .i64 hg,.bool bl] 230)).drew.cell? ⟨gt,ot+T*5+4,none⟩=some (.bool bl)∧((w.alloc (.cells #[.slice (some ⟨gt,ot,none⟩) nt ct,.slice Ak nk ck,.int .i64 a,.int .i64 b,.int .i64 c,.int .i64 d,.int .i64 e,.int .i64 W,.int .i64 H,.slice (some ⟨gx,ox,none⟩) mt bx,r,y] 47)).alloc (.cells #[.string nm,.slice (some ⟨gc,oc,none⟩) nc cc,.int .i64 sh,.int .i64 hg,.bool bl] 230)).drew.cell? ⟨gc,oc+k,none⟩=some (.int .i64 z):=⟨by simp [go_sem],by simp [go_sem],KB.cell q1,KB.cell u0,KB.cell q2,KB.cell u2,KB.cell u3,KB.cell u4,KB.cell q3⟩
 have p3:=KB.cell q3
 clear q1 q2 q3 u0 u2 u3 u4
 go_region_held3 (fun w'=>w'.cell? ⟨w.heap.size,0,none⟩=some (.slice (some ⟨gt,ot,none⟩) nt ct)∧w'.cell? ⟨w.heap.size,9,none⟩=some (.slice (some ⟨gx,ox,none⟩) mt bx)∧w'.cell? ⟨gx,ox+i,none⟩=some (.int .i64 (T:Int))∧w'.cell? ⟨gt,ot+T*5,none⟩=some (.string nm)∧w'.cell? ⟨gt,ot+T*5+1,none⟩=some (.slice (some ⟨gc,oc,none⟩) nc cc)∧w'.cell? ⟨gt,ot+T*5+2,none⟩=some (.int .i64 sh)∧w'.cell? ⟨gt,ot+T*5+3,none⟩=some (.int .i64 hg)∧w'.cell? ⟨gt,ot+T*5+4,none⟩=some (.bool bl)∧w'.cell? ⟨gc,oc+k,none⟩=some (.int .i64 z)) (first | assumption | exact s0 | exact s1) (fail)
 go_wp2_with fail
 exact bodyPost_ret (v:=tv nm (some ⟨gc,oc,none⟩) nc cc sh hg bl) (by simp [results,Tryz.results212,go_sem]) rfl ⟨nm,gc,oc,nc,cc,sh,⟨nm,cs,sh,hg,bl⟩,HT0.out,rfl,f2,p3,KB.drew⟩
theorem bTerrain_any (At Ak:Option Addr) (nt nk ct ck:Nat) (l:List Ter) (m:List Knd) (a b c d e W H:Int) (x r y:Value) (lt lr ld:List Int) (k i:Nat) (w:World) (hB:BrdAt w At Ak nt nk l m x r y lt lr ld) (hok:brdOk ⟨l,m,a,b,c,d,e⟩ W H lt lr ld=true) (hk:k<m.length) (hi:i<lt.length) :
  Calls Tryz.prog 212 #[bv (.slice At nt ct) (.slice Ak nk ck) a b c d e W H x r y,.int .i64 (i:Int)] w fun e' w'=>∃ (nm:ByteArray) (g o n c:Nat) (s h:Int) (b:Bool),e'=.returned (tv nm (some ⟨g,o,none⟩) n c s h b)∧k<n∧w'.cell? ⟨g,o+k,none⟩=some (.int .i64 (costB l lt k i))∧Kp w w' :=
 (bTerrain_full At Ak nt nk ct ck l m a b c d e W H x r y lt lr ld k i w hB hok hk hi).mono fun _ _ ⟨nm,g,o,n,c,s,t,_,h2,h3,h4,h5⟩=>⟨nm,g,o,n,c,s,t.height,t.blocks,h2,h3,h4,h5⟩
set_option maxRecDepth 100000 in
set_option maxHeartbeats 4000000 in
theorem bCost_any (At Ak:Option Addr) (nt nk ct ck:Nat) (l:List Ter) (m:List Knd) (a b c d e W H:Int) (x r y:Value) (lt lr ld:List Int) (k i:Nat) (w:World) (hB:BrdAt w At Ak nt nk l m x r y lt lr ld) (hok:brdOk ⟨l,m,a,b,c,d,e⟩ W H lt lr ld=true) (hk:k<m.length) (hi:i<lt.length) :
  Calls Tryz.prog 180 #[bv (.slice At nt ct) (.slice Ak nk ck) a b c d e W H x r y,.int .i64 (k:Int),.int .i64 (i:Int)] w fun e' w'=>e'=.returned (.int .i64 (costB l lt k i))∧Kp w w':=by
 have KA:Kp w (w.alloc (.cells #[.slice At nt ct,.slice Ak nk ck,.int .i64 a,.int .i64 b,.int .i64 c,.int .i64 d,.int .i64 e,.int .i64 W,.int .i64 H,x,r,y] 47)):=(Kp.refl w).alloc _
 have C1:=Lib.hid (bTerrain_any At Ak nt nk ct ck l m a b c d e W H x r y lt lr ld k i _ (hB.keep KA) hok hk hi)
 have hk4:k<4:=by have:=(rulOk_nt (brdOk_rul hok)).2.2;omega
 generalize costB l lt k i=X at C1 ⊢
 clear hB hok hk hi
 go_enter Tryz.func180,Tryz.ntmps180
 go_wp2_with fail
 refine C1.out.mono ?_
 rintro e1 w1 ⟨nm,g,o,n,c',s,h,b',rfl,hkn,p,k1⟩
 have hf:=fun w=>fieldCost nm (some ⟨g,o,none⟩) n c' s h b' w
 go_wp2_with fail
 go_ret
 exact⟨rfl,KA.trans k1⟩
end Go.Proofs.YtacgknllagdkoaaGreatDoor
/-
 The reference's tests of boards; open hexes and unused terrains as both sides hand them back. Nothing that was there is changed. The named variables hold what the program's text lays.
-/
namespace Go.Proofs.YtacgknllagdkoaaGreatDoor
open Go.RowKit
set_option maxRecDepth 100000 in
set_option maxHeartbeats 4000000 in
theorem bGood_any (At Ak:Option Addr) (nt nk ct ck:Nat) (l:List Ter) (m:List Knd) (a b c d e W H:Int) (x r y:Value) (lt lr ld:List Int) (w:World) (hB:BrdAt w At Ak nt nk l m x r y lt lr ld) :
  Calls Tryz.prog 127 #[bv (.slice At nt ct) (.slice Ak nk ck) a b c d e W H x r y] w fun e' w'=>e'=.returned (.bool (brdOk ⟨l,m,a,b,c,d,e⟩ W H lt lr ld))∧Kp w w':=by
 have KA:Kp w (w.alloc (.cells #[.slice At nt ct,.slice Ak nk ck,.int .i64 a,.int .i64 b,.int .i64 c,.int .i64 d,.int .i64 e,.int .i64 W,.int .i64 H,x,r,y] 47)):=(Kp.refl w).alloc _
 have s0:cb12 (w.alloc (.cells #[.slice At nt ct,.slice Ak nk ck,.int .i64 a,.int .i64 b,.int .i64 c,.int .i64 d,.int .i64 e,.int .i64 W,.int .i64 H,x,r,y] 47)) (w.heap.size) (.slice At nt ct) (.slice Ak nk ck) (.int .i64 a) (.int .i64 b) (.int .i64 c) (.int .i64 d) (.int .i64 e) (.int .i64 W) (.int .i64 H) (x) (r) (y) (Kp w (w.alloc (.cells #[.slice At nt ct,.slice Ak nk ck,.int .i64 a,.int .i64 b,.int .i64 c,.int .i64 d,.int .i64 e,.int .i64 W,.int .i64 H,x,r,y] 47))):=⟨by simp [go_sem],by simp [go_sem],by simp [go_sem],by simp [go_sem],by simp [go_sem],by simp [go_sem],by simp [go_sem],by simp [go_sem],by simp [go_sem],by simp [go_sem],by simp [go_sem],by simp [go_sem],KA⟩
 have HB:=Lib.hid hB
 have C1:=Lib.hid (rGood_any At Ak nt nk ct ck l m a b c d e _ (hB.R.keep KA))
 have hl:=hB.R.rt.1
 have e0:brdOk ⟨l,m,a,b,c,d,e⟩ W H lt lr ld=((rulOk ⟨l,m,a,b,c,d,e⟩ && mapOk W H lt lr ld) && lt.all (spB 0 ((nt:Int) - 1))):=by
  unfold brdOk
  rw [← hl]
 have hbt:=hB.R.bt
 rw [e0]
 cases hr:rulOk ⟨l,m,a,b,c,d,e⟩
 ·rw [hr] at C1
  clear hB hr e0 hl
  go_enter Tryz.func127,Tryz.ntmps127
  go_wp2_with fail
  refine C1.out.mono ?_
  rintro e1 w1 ⟨rfl,k1⟩
  go_wp2_with fail
  go_ret
  exact⟨rfl,KA.trans k1⟩
 ·rw [hr] at C1
  have CM:=Lib.hid (fun w h=>mGood_any W H x r y lt lr ld w h)
  cases hm:mapOk W H lt lr ld
  ·rw [hm] at CM
   clear hB hr hm e0 hl
   go_enter Tryz.func127,Tryz.ntmps127
   go_wp2_with fail
   refine C1.out.mono ?_
   rintro e1 w1 ⟨rfl,k1⟩
   have s1:cb12 w1 (w.heap.size) (.slice At nt ct) (.slice Ak nk ck) (.int .i64 a) (.int .i64 b) (.int .i64 c) (.int .i64 d) (.int .i64 e) (.int .i64 W) (.int .i64 H) (x) (r) (y) (Kp w w1):=⟨k1.cell s0.1,k1.cell s0.2.1,k1.cell s0.2.2.1,k1.cell s0.2.2.2.1,k1.cell s0.2.2.2.2.1,k1.cell s0.2.2.2.2.2.1,k1.cell s0.2.2.2.2.2.2.1,k1.cell s0.2.2.2.2.2.2.2.1,k1.cell s0.2.2.2.2.2.2.2.2.1,k1.cell s0.2.2.2.2.2.2.2.2.2.1,k1.cell s0.2.2.2.2.2.2.2.2.2.2.1,k1.cell s0.2.2.2.2.2.2.2.2.2.2.2.1,s0.2.2.2.2.2.2.2.2.2.2.2.2.trans k1⟩
   clear s0 k1
   go_wp2_with fail
   refine(CM.out _ (HB.out.keep s1.2.2.2.2.2.2.2.2.2.2.2.2).L).mono ?_
   rintro e2 w2 ⟨rfl,k2⟩
   go_wp2_with fail
   go_ret
   exact⟨rfl,s1.2.2.2.2.2.2.2.2.2.2.2.2.trans k2⟩
  ·rw [hm] at CM
   clear hB hr hm e0 hl
   go_enter Tryz.func127,Tryz.ntmps127
   go_wp2_with fail
   refine C1.out.mono ?_
   rintro e1 w1 ⟨rfl,k1⟩
   have s1:cb12 w1 (w.heap.size) (.slice At nt ct) (.slice Ak nk ck) (.int .i64 a) (.int .i64 b) (.int .i64 c) (.int .i64 d) (.int .i64 e) (.int .i64 W) (.int .i64 H) (x) (r) (y) (Kp w w1):=⟨k1.cell s0.1,k1.cell s0.2.1,k1.cell s0.2.2.1,k1.cell s0.2.2.2.1,k1.cell s0.2.2.2.2.1,k1.cell s0.2.2.2.2.2.1,k1.cell s0.2.2.2.2.2.2.1,k1.cell s0.2.2.2.2.2.2.2.1,k1.cell s0.2.2.2.2.2.2.2.2.1,k1.cell s0.2.2.2.2.2.2.2.2.2.1,k1.cell s0.2.2.2.2.2.2.2.2.2.2.1,k1.cell s0.2.2.2.2.2.2.2.2.2.2.2.1,s0.2.2.2.2.2.2.2.2.2.2.2.2.trans k1⟩
   clear s0 k1
   go_wp2_with fail
   refine(CM.out _ (HB.out.keep s1.2.2.2.2.2.2.2.2.2.2.2.2).L).mono ?_
   rintro e2 w2 ⟨rfl,k2⟩
   have s2:cb12 w2 (w.heap.size) (.slice At nt ct) (.slice Ak nk ck) (.int .i64 a) (.int .i64 b) (.int .i64 c) (.int .i64 d) (.int .i64 e) (.int .i64 W) (.int .i64 H) (x) (r) (y) (Kp w w2):=⟨k2.cell s1.1,k2.cell s1.2.1,k2.cell s1.2.2.1,k2.cell s1.2.2.2.1,k2.cell s1.2.2.2.2.1,k2.cell s1.2.2.2.2.2.1,k2.cell s1.2.2.2.2.2.2.1,k2.cell s1.2.2.2.2.2.2.2.1,k2.cell s1.2.2.2.2.2.2.2.2.1,k2.cell s1.2.2.2.2.2.2.2.2.2.1,k2.cell s1.2.2.2.2.2.2.2.2.2.2.1,k2.cell s1.2.2.2.2.2.2.2.2.2.2.2.1,s1.2.2.2.2.2.2.2.2.2.2.2.2.trans k2⟩
   clear s1 k2
   go_wp2_with fail
   refine(l1All_sp _ lt _ _ _ (HB.out.keep s2.2.2.2.2.2.2.2.2.2.2.2.2).L.rt HB.out.L.bt).mono ?_
   rintro e3 w3 ⟨rfl,rfl⟩
   go_wp2_with fail
   go_ret
   exact⟨ret_bool (by simp),s2.2.2.2.2.2.2.2.2.2.2.2.2⟩
end Go.Proofs.YtacgknllagdkoaaGreatDoor
/-
 What the laws' sizes say: a negative number, or what is left and that all is small.
-/
namespace Go.Proofs.YtacgknllagdkoaaGreatDoor
open Go.RowKit
/-- A negative number, or what is left and P. -/
def SzPost (P:Prop) (w:World) (e:Ending) (w':World):Prop:=∃ r:Int,e=.returned (.int .i64 r)∧r≤1048576∧-1≤r∧(0≤r→P)∧Kp w w'
end Go.Proofs.YtacgknllagdkoaaGreatDoor
/-
 The laws' sizes of terrains, kinds and rules: either what is left is negative, or all that was counted is small. Nothing that was there is changed.
-/
namespace Go.Proofs.YtacgknllagdkoaaGreatDoor
open Go.RowKit
def smT (x:Ter):Prop:=x.cost.length≤1048576∧x.name.size≤1048576
def smK (x:Knd):Prop:=x.name.size≤1048576
theorem szTerrain_any (n:ByteArray) (A:Option Addr) (nc cc:Nat) (s h:Int) (b:Bool) (left:Int) (w:World) (h0:0≤left) (h1:left≤1048576) (hn:n.size≤9223372036854775807) (hc:nc≤9223372036854775807) :
  Calls Tryz.prog 176 #[tv n A nc cc s h b,.int .i64 left] w (SzPost (nc≤1048576∧n.size≤1048576) w):=by
 by_cases a1:(n.size:Int)≤left
 ·have a1':¬ (left - n.size)<0:=by omega
  by_cases a2:(nc:Int)≤left - n.size
  ·have a2':¬ (left - n.size - nc)<0:=by omega
   go_enter Tryz.func176,Tryz.ntmps176
   go_wp2_with fail
   refine(szIntS_yes _ _ _ _ _ (by omega) (by omega) (by omega)).mono ?_
   rintro e1 w1 ⟨rfl,rfl⟩
   go_wp2_with fail
   go_ret
   exact⟨_,rfl,by omega,by omega,fun _=>(by omega),(Kp.refl _).alloc _⟩
  ·go_enter Tryz.func176,Tryz.ntmps176
   go_wp2_with fail
   refine(szIntS_no _ _ _ _ _ (by omega) (by omega) (by omega) (by omega)).mono ?_
   rintro e1 w1 ⟨rfl,rfl⟩
   go_wp2_with fail
   go_ret
   exact⟨_,rfl,by omega,by omega,fun h=>absurd h (by omega),(Kp.refl _).alloc _⟩
 ·have a1':(left - n.size)<0:=by omega
  go_enter Tryz.func176,Tryz.ntmps176
  go_wp2_with fail
  go_ret
  exact⟨_,rfl,by omega,by omega,fun h=>absurd h (by omega),(Kp.refl _).alloc _⟩
theorem szKind_any (n:ByteArray) (a b c:Int) (z:Bool) (v:Int) (left:Int) (w:World) (h0:0≤left) (h1:left≤1048576) (hn:n.size≤9223372036854775807) :
  Calls Tryz.prog 177 #[kv n a b c z v,.int .i64 left] w (SzPost (n.size≤1048576) w):=by
 by_cases a1:(n.size:Int)≤left
 ·have a1':¬ (left - n.size)<0:=by omega
  go_enter Tryz.func177,Tryz.ntmps177
  go_wp2_with fail
  go_ret
  exact⟨_,rfl,by omega,by omega,fun _=>(by omega),(Kp.refl _).alloc _⟩
 ·have a1':(left - n.size)<0:=by omega
  go_enter Tryz.func177,Tryz.ntmps177
  go_wp2_with fail
  go_ret
  exact⟨_,rfl,by omega,by omega,fun h=>absurd h (by omega),(Kp.refl _).alloc _⟩
set_option maxRecDepth 100000 in
set_option maxHeartbeats 1000000 in
theorem szTerrainS_any (A:Option Addr) (n c:Nat) (l:List Ter) (left:Int) (w:World) (h:RdT w A n l) (h0:0≤left) (h1:left≤1048576) (hn:n≤9223372036854775807) (hb:∀ x ∈ l,x.cost.length≤9223372036854775807∧x.name.size≤9223372036854775807) :
  Calls Tryz.prog 125 #[.slice A n c,.int .i64 left] w (SzPost (n≤1048576∧∀ x ∈ l,smT x) w):=by
 have HN:=Lib.hid h.1
 have HA:=Lib.hid h.2
 have HB:=Lib.hid hb
 clear h hb
 obtain⟨P,hP⟩:∃ P,P=(n≤1048576∧∀ x ∈ l,smT x):=⟨_,rfl⟩
 rw [← hP]
 have HP:=Lib.hid hP
 clear hP
 by_cases a1:(n:Int)≤left
 ·have a1':¬ (left - n)<0:=by omega
  go_enter Tryz.func125,Tryz.ntmps125
  go_wp2_with fail
  go_loopw [1,5] (fun v i wr=>∃ (k:Nat) (r:Int),k≤n∧i=.int .i64 k∧v=.int .i64 r∧0≤r∧r≤1048576∧Hid (∀ j x,j<k→l[j]?=some x→smT x)∧Kp w wr) (fun _ i _=>n - (intOf i).toNat)
  case atStart=>exact⟨0,_,by omega,rfl,rfl,by omega,by omega,Lib.hid fun j x hj=>absurd hj (by omega),Kp.refl _⟩
  case round =>
   obtain⟨k,r,hk,rfl,rfl,r0,r1,hE,kr⟩:=hrel
   by_cases hlt:k<n
   ·have hlt':(k:Int)<n:=by omega
    obtain⟨g,off,rfl,hc⟩:=HA.out (by omega)
    obtain⟨x,hx⟩:∃ x,l[k]?=some x:=⟨l[k]'(by have:=HN.out;omega),List.getElem?_eq_getElem _⟩
    obtain⟨Ac,cc,⟨a0,a1,a2,a3,a4⟩,_⟩:=(hc k x hx).keep kr
    have HX:=Lib.hid hx
    have hbx:=HB.out x (List.mem_of_getElem? hx)
    obtain⟨nm,cs,sh,hg,bl⟩:=x
    simp only at a0 a1 a2 a3 a4 hbx
    obtain⟨hb1,hb2⟩:=hbx
    generalize hnc:cs.length=nc at a1 hb1
    have HNC2:=Lib.hid hnc
    clear hnc
    clear hc hx
    go_wp2_with fail
    refine(szTerrain_any _ _ _ _ _ _ _ _ _ r0 r1 hb2 hb1).mono ?_
    rintro e1 w1 ⟨r2,rfl,u1,u2,u3,k1⟩
    by_cases hneg:r2<0
    ·go_wp2_with fail
     go_ret
     exact⟨_,rfl,by omega,by omega,fun h=>absurd h (by omega),kr.trans k1⟩
    ·have hs:Hid (smT ⟨nm,cs,sh,hg,bl⟩):=Lib.hid (by have:=u3 (by omega);simpa [smT,HNC2.out] using this)
     have HE2:Hid (∀ j x,j<k+1→l[j]?=some x→smT x):=Lib.hid fun j x hj hx=>by
      rcases Nat.lt_or_ge j k with hjk | hjk
      ·exact hE.out j x hjk hx
      ·obtain rfl:j=k:=by omega
       rw [HX.out] at hx
       obtain rfl:=Option.some.inj hx
       exact hs.out
     clear u3
     go_wp2_with fail
     go_roundw
     case rel=>exact⟨k+1,r2,by omega,by go_num,rfl,by omega,by omega,HE2,kr.trans k1⟩
     case measure=>simp [intOf];omega
   ·obtain rfl:k=n:=by omega
    go_wp2_with fail
    go_ret
    refine⟨_,rfl,by omega,by omega,fun _=>?_,kr⟩
    rw [HP.out]
    refine⟨by omega,fun x hx=>?_⟩
    obtain⟨i,hi,rfl⟩:=List.mem_iff_getElem.1 hx
    exact hE.out i _ (by have:=HN.out;omega) (List.getElem?_eq_getElem hi)
 ·have a1':(left - n)<0:=by omega
  go_enter Tryz.func125,Tryz.ntmps125
  go_wp2_with fail
  go_ret
  exact⟨_,rfl,by omega,by omega,fun h=>absurd h (by omega),Kp.refl _⟩
set_option maxRecDepth 100000 in
set_option maxHeartbeats 1000000 in
theorem szKindS_any (A:Option Addr) (n c:Nat) (l:List Knd) (left:Int) (w:World) (h:RdK w A n l) (h0:0≤left) (h1:left≤1048576) (hn:n≤9223372036854775807) (hb:∀ x ∈ l,x.name.size≤9223372036854775807) :
  Calls Tryz.prog 126 #[.slice A n c,.int .i64 left] w (SzPost (n≤1048576∧∀ x ∈ l,smK x) w):=by
 have HN:=Lib.hid h.1
 have HA:=Lib.hid h.2
 have HB:=Lib.hid hb
 clear h hb
 obtain⟨P,hP⟩:∃ P,P=(n≤1048576∧∀ x ∈ l,smK x):=⟨_,rfl⟩
 rw [← hP]
 have HP:=Lib.hid hP
 clear hP
 by_cases a1:(n:Int)≤left
 ·have a1':¬ (left - n)<0:=by omega
  go_enter Tryz.func126,Tryz.ntmps126
  go_wp2_with fail
  go_loopw [1,5] (fun v i wr=>∃ (k:Nat) (r:Int),k≤n∧i=.int .i64 k∧v=.int .i64 r∧0≤r∧r≤1048576∧Hid (∀ j x,j<k→l[j]?=some x→smK x)∧Kp w wr) (fun _ i _=>n - (intOf i).toNat)
  case atStart=>exact⟨0,_,by omega,rfl,rfl,by omega,by omega,Lib.hid fun j x hj=>absurd hj (by omega),Kp.refl _⟩
  case round =>
   obtain⟨k,r,hk,rfl,rfl,r0,r1,hE,kr⟩:=hrel
   by_cases hlt:k<n
   ·have hlt':(k:Int)<n:=by omega
    obtain⟨g,off,rfl,hc⟩:=HA.out (by omega)
    obtain⟨x,hx⟩:∃ x,l[k]?=some x:=⟨l[k]'(by have:=HN.out;omega),List.getElem?_eq_getElem _⟩
    obtain⟨a0,a1,a2,a3,a4,a5⟩:=(hc k x hx).keep kr
    have HX:=Lib.hid hx
    have hbx:=HB.out x (List.mem_of_getElem? hx)
    obtain⟨nm,ks,km,kt,kz,kw⟩:=x
    simp only at a0 a1 a2 a3 a4 a5 hbx
    clear hc hx
    go_wp2_with fail
    refine(szKind_any _ _ _ _ _ _ _ _ r0 r1 hbx).mono ?_
    rintro e1 w1 ⟨r2,rfl,u1,u2,u3,k1⟩
    by_cases hneg:r2<0
    ·go_wp2_with fail
     go_ret
     exact⟨_,rfl,by omega,by omega,fun h=>absurd h (by omega),kr.trans k1⟩
    ·have hs:Hid (smK ⟨nm,ks,km,kt,kz,kw⟩):=Lib.hid (by have:=u3 (by omega);exact this)
     have HE2:Hid (∀ j x,j<k+1→l[j]?=some x→smK x):=Lib.hid fun j x hj hx=>by
      rcases Nat.lt_or_ge j k with hjk | hjk
      ·exact hE.out j x hjk hx
      ·obtain rfl:j=k:=by omega
       rw [HX.out] at hx
       obtain rfl:=Option.some.inj hx
       exact hs.out
     clear u3
     go_wp2_with fail
     go_roundw
     case rel=>exact⟨k+1,r2,by omega,by go_num,rfl,by omega,by omega,HE2,kr.trans k1⟩
     case measure=>simp [intOf];omega
   ·obtain rfl:k=n:=by omega
    go_wp2_with fail
    go_ret
    refine⟨_,rfl,by omega,by omega,fun _=>?_,kr⟩
    rw [HP.out]
    refine⟨by omega,fun x hx=>?_⟩
    obtain⟨i,hi,rfl⟩:=List.mem_iff_getElem.1 hx
    exact hE.out i _ (by have:=HN.out;omega) (List.getElem?_eq_getElem hi)
 ·have a1':(left - n)<0:=by omega
  go_enter Tryz.func126,Tryz.ntmps126
  go_wp2_with fail
  go_ret
  exact⟨_,rfl,by omega,by omega,fun h=>absurd h (by omega),Kp.refl _⟩
/-- What an argument's rules are: two slices that read as lists, within Go's own bounds. -/
structure RulIn (w:World) (At Ak:Option Addr) (nt nk:Nat) (l:List Ter) (m:List Knd):Prop where
 rt:RdT w At nt l
 rk:RdK w Ak nk m
 bt:nt≤9223372036854775807
 bk:nk≤9223372036854775807
 bc:∀ x ∈ l,x.cost.length≤9223372036854775807∧x.name.size≤9223372036854775807
 bn:∀ x ∈ m,x.name.size≤9223372036854775807
def rulSm (nt nk:Nat) (l:List Ter) (m:List Knd):Prop:=(nt≤1048576∧∀ x ∈ l,smT x)∧(nk≤1048576∧∀ x ∈ m,smK x)
theorem RulIn.at {w:World} {At Ak:Option Addr} {nt nk:Nat} {l:List Ter} {m:List Knd} (h:RulIn w At Ak nt nk l m) (s:rulSm nt nk l m):RulAt w At Ak nt nk l m :=
 ⟨h.rt,h.rk,s.1.1,s.2.1,s.1.2,s.2.2⟩
set_option maxRecDepth 100000 in
set_option maxHeartbeats 1000000 in
theorem szRules_any (At Ak:Option Addr) (nt nk ct ck:Nat) (l:List Ter) (m:List Knd) (a b c d e:Int) (left:Int) (w:World) (h:RulIn w At Ak nt nk l m) (h0:0≤left) (h1:left≤1048576) :
  Calls Tryz.prog 58 #[rv (.slice At nt ct) (.slice Ak nk ck) a b c d e,.int .i64 left] w (SzPost (rulSm nt nk l m) w):=by
 have HL:=Lib.hid h
 have KA:Kp w (w.alloc (.cells #[.slice At nt ct,.slice Ak nk ck,.int .i64 a,.int .i64 b,.int .i64 c,.int .i64 d,.int .i64 e] 25)):=(Kp.refl w).alloc _
 have f1:(w.alloc (.cells #[.slice At nt ct,.slice Ak nk ck,.int .i64 a,.int .i64 b,.int .i64 c,.int .i64 d,.int .i64 e] 25)).cell? ⟨w.heap.size,1,none⟩=some (.slice Ak nk ck):=by simp [go_sem]
 clear h
 go_enter Tryz.func58,Tryz.ntmps58
 go_wp2_with fail
 refine(szTerrainS_any _ _ _ l _ _ (HL.out.rt.keep KA) h0 h1 HL.out.bt HL.out.bc).mono ?_
 rintro e1 w1 ⟨r1,rfl,u1,u2,u3,k1⟩
 have f2:=k1.cell f1
 have H3:=Lib.hid u3
 clear u3
 by_cases hneg:r1<0
 ·go_wp2_with fail
  go_ret
  exact⟨_,rfl,by omega,by omega,fun h=>absurd h (by omega),KA.trans k1⟩
 ·go_wp2_with fail
  refine(szKindS_any _ _ _ m _ _ (HL.out.rk.keep (KA.trans k1)) (by omega) u1 HL.out.bk HL.out.bn).mono ?_
  rintro e2 w2 ⟨r2,rfl,v1,v2,v3,k2⟩
  have H4:=Lib.hid v3
  clear v3
  by_cases hneg2:r2<0
  ·go_wp2_with fail
   go_ret
   exact⟨_,rfl,by omega,by omega,fun h=>absurd h (by omega),(KA.trans k1).trans k2⟩
  ·go_wp2_with fail
   go_ret
   exact⟨_,rfl,by omega,by omega,fun _=>⟨H3.out (by omega),H4.out (by omega)⟩,(KA.trans k1).trans k2⟩
end Go.Proofs.YtacgknllagdkoaaGreatDoor
/-
 What a row's list says of named variables, cell by cell; worlds in which they lie.
-/
namespace Go.Proofs.YtacgknllagdkoaaGreatDoor
open Go.ChangeShapes Go.WideShapes Go.ChangeAt Go.RowKit Go.Joins
theorem cellsInt:Tryz.prog.cellsOf 3=1:=by kernel_rfl
theorem laid_one {P:Program} {w:World}:∀ {l:List (String × DataW Unit)} {ps:List MemPlace} {n:String} {d:DataW Unit},DataW.LaidVars P w l ps→(n,d) ∈ l →
  ∃ g t cs fuel p,P.globalNamed n=some g∧(P.globals[g]?).map (·.type)=some t∧w.var? P n=some cs∧DataW.trod (fun _=>()) P w 0 (fun _=>true) false fuel t cs.toList=some (d,p)
 | [],_,_,_,_,h=>by cases h
 | (m,e) :: r,ps,n,d,hl,h=>by
  obtain⟨g,t,cs,fuel,p,q,h1,h2,h3,h4,hr,_⟩:=hl
  rcases List.mem_cons.1 h with he | he
  ·obtain⟨rfl,rfl⟩:=Prod.mk.injEq .. |>.mp he
   exact⟨g,t,cs,fuel,p,h1,h2,h3,h4⟩
  ·exact laid_one hr he
theorem spanFields:∃ f0 f1:Field,Tryz.prog.underlying 105=some (.struct #[f0,f1])∧f0.type=3∧f1.type=3∧f0.offset=0∧f1.offset=1 :=
 ⟨_,_,Tryz.underlying105,rfl,rfl,rfl,rfl⟩
theorem span_of {W:World} {n:String} {g:Nat} {a b:Int} (hG:Tryz.prog.globalNamed n=some g) (hT:(Tryz.prog.globals[g]?).map (·.type)=some 105)
  (h:∃ g t cs fuel p,Tryz.prog.globalNamed n=some g∧(Tryz.prog.globals[g]?).map (·.type)=some t∧W.var? Tryz.prog n=some cs∧DataW.trod (fun _=>()) Tryz.prog W 0 (fun _=>true) false fuel t cs.toList=some (.agg [.lit (.int .i64 a),.lit (.int .i64 b)],p)):SpanAt W g a b:=by
 obtain⟨g',t',cs,fuel,p,hg',ht',hvar,hd⟩:=h
 obtain rfl:=Option.some.inj (hG.symm.trans hg')
 obtain rfl:=Option.some.inj (hT.symm.trans ht')
 obtain⟨f0,f1,hu,e0,e1,o0,o1⟩:=spanFields
 obtain⟨y0,y1,n',hx,hlen,u0,u1⟩:=trod_struct2 hu hd
 rw [e0,o0,cellsInt] at u0
 rw [e1,o1,cellsInt] at u1
 obtain⟨x,c0,rfl,_⟩:=DataW.trod_int Tryz.underlying3 u0
 obtain⟨y,c1,rfl,_⟩:=DataW.trod_int Tryz.underlying3 u1
 simp only [Prod.mk.injEq,DataW.agg.injEq,List.cons.injEq,DataW.lit.injEq,Lit.int.injEq,true_and,and_true] at hx
 obtain⟨⟨rfl,rfl⟩,_⟩:=hx
 have g0:cs[0]?=some (.int .i64 a):=by
  have:=congrArg (·[0]?) c0
  simpa [List.getElem?_take,List.getElem?_drop] using this
 have g1:cs[1]?=some (.int .i64 b):=by
  have:=congrArg (·[0]?) c1
  simpa [List.getElem?_take,List.getElem?_drop] using this
 exact⟨(World.var?_cell hG hvar _).trans g0,(World.var?_cell hG hvar _).trans g1⟩
/-- The same world, a variable's cells laid. -/
noncomputable def setVar (w:World) (g:Nat) (xs:Array Value):World :=
 { w with heap:=w.heap.modify g fun
   | .cells _ t frozen=>.cells xs t frozen
   | o=>o }
theorem trodVars_len {H:Type} {enc:TypeId × Value→H} {P:Program} {w:World} {sp:Nat→Bool}:∀ {ns:List String} {gs:List (DataW H)} {ps:List MemPlace},DataW.TrodVars enc P w sp ns gs ps→gs.length=ns.length
 | [],[],_,_=>rfl
 | n :: ns,d :: ds,_,h=>by
  obtain⟨_,_,_,_,_,_,_,_,_,_,h,_⟩:=h
  simp [trodVars_len h]
 | [],_ :: _,_,h=>h.elim
 | _ :: _,[],_,h=>h.elim
end Go.Proofs.YtacgknllagdkoaaGreatDoor
/-
 What the row's list says of the table of directions, cell by cell; and a world for the witness in which the table lies.
-/
namespace Go.Proofs.YtacgknllagdkoaaGreatDoor
open Go.ChangeShapes Go.WideShapes Go.ChangeAt Go.RowKit Go.Joins
abbrev tabName:String:="loop.example/g00886/impl.directionSteps"
theorem tabG:Tryz.prog.globalNamed tabName=some 9:=by kernel_rfl
theorem tabT:(Tryz.prog.globals[9]?).map (·.type)=some 244:=by kernel_rfl
theorem cellsOff:Tryz.prog.cellsOf 243=2:=by kernel_rfl
theorem offFields:∃ f0 f1:Field,Tryz.prog.underlying 243=some (.struct #[f0,f1])∧f0.type=3∧f1.type=3∧f0.offset=0∧f1.offset=1 :=
 ⟨_,_,Tryz.underlying243,rfl,rfl,rfl,rfl⟩
theorem tab_datum {H:Type} (d:Nat) (h:d<6) :
  ([.agg [.lit (.int .i64 1),.lit (.int .i64 0)],.agg [.lit (.int .i64 1),.lit (.int .i64 (-1))],.agg [.lit (.int .i64 0),.lit (.int .i64 (-1))],.agg [.lit (.int .i64 (-1)),.lit (.int .i64 0)],.agg [.lit (.int .i64 (-1)),.lit (.int .i64 1)],.agg [.lit (.int .i64 0),.lit (.int .i64 1)]]:List (DataW H))[d]? =
   some (.agg [.lit (.int .i64 (dirQ d)),.lit (.int .i64 (dirR d))]):=by
 match d,h with
 | 0,_=>rfl
 | 1,_=>rfl
 | 2,_=>rfl
 | 3,_=>rfl
 | 4,_=>rfl
 | 5,_=>rfl
theorem tab_of_laid1 {W:World} (h:∃ g t cs fuel p,Tryz.prog.globalNamed tabName=some g∧(Tryz.prog.globals[g]?).map (·.type)=some t∧W.var? Tryz.prog tabName=some cs∧DataW.trod (fun _=>()) Tryz.prog W 0 (fun _=>true) false fuel t cs.toList=some (Rows.laid_loop_example_g00886_impl_directionSteps,p)):Tab W:=by
 obtain⟨g',t',cs,fuel,p,hg',ht',hvar,hd⟩:=h
 obtain rfl:=Option.some.inj (tabG.symm.trans hg')
 obtain rfl:=Option.some.inj (tabT.symm.trans ht')
 obtain⟨xs,m,_,hx,hl,hn,hi⟩:=DataW.trod_array Tryz.underlying244 hd
 have hxs:xs.map (·.1)=[.agg [.lit (.int .i64 1),.lit (.int .i64 0)],.agg [.lit (.int .i64 1),.lit (.int .i64 (-1))],.agg [.lit (.int .i64 0),.lit (.int .i64 (-1))],.agg [.lit (.int .i64 (-1)),.lit (.int .i64 0)],.agg [.lit (.int .i64 (-1)),.lit (.int .i64 1)],.agg [.lit (.int .i64 0),.lit (.int .i64 1)]]:=by
  have:=congrArg Prod.fst hx
  simp only [Rows.laid_loop_example_g00886_impl_directionSteps,DataW.agg.injEq] at this
  exact this.symm
 intro d hd6
 have h1:=hi d hd6
 rw [cellsOff] at h1
 have h2:(xs.map (·.1))[d]?=some (.agg [.lit (.int .i64 (dirQ d)),.lit (.int .i64 (dirR d))]):=by rw [hxs];exact tab_datum d hd6
 rw [List.getElem?_map,Option.map_eq_some_iff] at h2
 obtain⟨y,hy,hy1⟩:=h2
 obtain⟨f0,f1,hu,e0,e1,o0,o1⟩:=offFields
 obtain⟨y0,y1,n,rfl,hlen,u0,u1⟩:=trod_struct2 hu (h1.trans hy)
 rw [e0,o0,cellsInt] at u0
 rw [e1,o1,cellsInt] at u1
 obtain⟨a,c0,rfl,_⟩:=DataW.trod_int Tryz.underlying3 u0
 obtain⟨b,c1,rfl,_⟩:=DataW.trod_int Tryz.underlying3 u1
 simp only [DataW.agg.injEq,List.cons.injEq,DataW.lit.injEq,Lit.int.injEq,true_and,and_true] at hy1
 obtain⟨rfl,rfl⟩:=hy1
 have g0:cs[d*2]?=some (.int .i64 (dirQ d)):=by
  have:=congrArg (·[0]?) c0
  simpa [List.getElem?_take,List.getElem?_drop] using this
 have g1:cs[d*2+1]?=some (.int .i64 (dirR d)):=by
  have:=congrArg (·[0]?) c1
  simpa [List.getElem?_take,List.getElem?_drop] using this
 exact⟨(World.var?_cell tabG hvar _).trans g0,(World.var?_cell tabG hvar _).trans g1⟩
/-- A world for the witness: the settled one, the table holding what its text lays. -/
noncomputable def laidWorld (os:Os):World :=
 { World.holding Tryz.prog os ⟨#[],#[],[]⟩ with heap:=(World.holding Tryz.prog os ⟨#[],#[],[]⟩).heap.modify 9 fun
   | .cells _ t frozen=>.cells #[.int .i64 1,.int .i64 0,.int .i64 1,.int .i64 (-1),.int .i64 0,.int .i64 (-1),.int .i64 (-1),.int .i64 0,.int .i64 (-1),.int .i64 1,.int .i64 0,.int .i64 1] t frozen
   | o=>o }
end Go.Proofs.YtacgknllagdkoaaGreatDoor
/-
 Arguments that are structs, and slices of structs: their cells, read one by one.
-/
namespace Go.Proofs.YtacgknllagdkoaaGreatDoor
open Go.ChangeShapes Go.WideShapes Go.ChangeAt Go.RowKit Go.Joins Go.Deep
/-- The cells of a struct whose fields take one cell each, read one by one. -/
theorem fields_of_trod {H:Type} {enc:TypeId × Value→H} {P:Program} {w:World} {base n0 fuel:Nat} {spare:Nat→Bool} {held:Bool} {t:TypeId} {fs:Array Field} {cs:List Value} {x:DataW H × List MemPlace}
  (hs:P.underlying t=some (.struct fs)) (hone:Go.Deep.oneCellFields P fs=true) (hn:fs.size=n0) (hl:cs.length=n0) (hf:DataW.trod enc P w base spare held fuel t cs=some x) :
  ∃ n:Nat,∀ (j:Nat) (f:Field),fs[j]?=some f→∃ c y,cs[j]?=some c∧DataW.trod enc P w base spare held n f.type [c]=some y:=by
 obtain⟨xs,n,_,_,_,hlen,hg⟩:=DataW.trod_struct hs hf
 refine⟨n,fun j f hj=>?_⟩
 have hjl:j<fs.size:=(Array.getElem?_eq_some_iff.1 hj).1
 obtain⟨o,k⟩:=Go.Deep.hone_of hone j f hj
 have h1:=hg j f hj
 rw [o,k] at h1
 have e:(cs.drop j).take 1=[cs[j]'(by omega)]:=by
  rw [List.drop_eq_getElem_cons (by omega)]
  rfl
 rw [e] at h1
 exact⟨_,_,List.getElem?_eq_getElem (by omega),h1.trans (List.getElem?_eq_getElem (by omega))⟩
theorem add_none' (b off k:Nat):(⟨b,off,none⟩:Addr).add k=⟨b,off+k,none⟩:=by
 unfold Addr.add
 split
 ·rename_i h
  simp_all
 ·rfl
theorem RdI.shape {w:World} {v:Value} {l:List Int} (h:RdI w v l):∃ A c,v=.slice A l.length c:=by
 obtain⟨A,c,e,_⟩:=h
 exact⟨A,c,e⟩
/-- A slice of structs of sz cells each reads as a list, where each element's cells do. -/
theorem rd_structs {α:Type} {H:Type} {enc:TypeId × Value→H} {W:World} {t e:TypeId} {sz fuel:Nat} {v:Value} {y:DataW H × List MemPlace} (At:Nat→Nat→α→Prop) (hsz:Tryz.prog.cellsOf e=sz)
  (ht:Tryz.prog.underlying t=some (.slice e)) (hf:DataW.trod enc Tryz.prog W 0 (fun _=>true) true fuel t [v]=some y)
  (one:∀ (a:Addr) (fu:Nat) (cs:List Value) (x:DataW H × List MemPlace),cs.length=sz→(∀ j,j<sz→W.cell? (a.add j)=cs[j]?)→DataW.trod enc Tryz.prog W 0 (fun _=>true) true fu e cs=some x→a.spot=none∧∃ z:α,At a.block a.off z) :
  ∃ (A:Option Addr) (n c:Nat) (l:List α),v=.slice A n c∧l.length=n∧n≤maxLen∧(0<n→∃ g off,A=some ⟨g,off,none⟩∧∀ i x,l[i]?=some x→At g (off+i*sz) x):=by
 rcases open_slice ht hf with ⟨hcs,_⟩ | ⟨a,len,cap,m,n,D,Pl,hcs,_,hl,hm,hmm,_,hi⟩
 ·simp only [List.cons.injEq,and_true] at hcs
  exact⟨none,0,0,[],hcs,rfl,by decide,fun h=>absurd h (by omega)⟩
 ·simp only [List.cons.injEq,and_true] at hcs
  have hmc:m=cap:=by simpa using hmm
  have each:∀ i,i<len→(a.add (i*sz)).spot=none∧∃ z:α,At (a.add (i*sz)).block (a.add (i*sz)).off z:=by
   intro i hil
   obtain⟨cs',hc,ht'⟩:=hi i (by omega)
   rw [hsz] at hc
   obtain⟨_,hcl,hat⟩:=World.cells?_some hc
   exact one _ _ cs' _ hcl (fun j hj=>hat j hj) ht'
  rcases Nat.eq_zero_or_pos len with rfl | hpos
  ·exact⟨some a,0,cap,[],hcs,rfl,by omega,fun h=>absurd h (by omega)⟩
  ·obtain⟨b,off,spot⟩:=a
   have hspot:spot=none:=by
    have:=(each 0 hpos).1
    simpa [Addr.add] using this
   subst hspot
   let l:List α:=(List.range len).attach.map fun i=>(each i.1 (List.mem_range.1 i.2)).2.choose
   have hll:l.length=len:=by simp [l]
   refine⟨_,len,cap,l,hcs,hll,by omega,fun _=>⟨b,off,rfl,fun i x hx=>?_⟩⟩
   have hil:i<len:=by have:=(List.getElem?_eq_some_iff.1 hx).1;omega
   have hs:=(each i hil).2.choose_spec
   have key:∀ (A:Addr) (z:α),A=⟨b,off+i*sz,none⟩→At A.block A.off z→At b (off+i*sz) z:=by
    rintro _ _ rfl h
    exact h
   have hx':x=(each i hil).2.choose:=by
    obtain⟨hi2,rfl⟩:=List.getElem?_eq_some_iff.1 hx
    simp [l]
   rw [hx']
   exact key _ _ (add_none' b off (i*sz)) hs
/-- An argument that is a struct whose fields take one cell each: the cell of each field reads as the field's type says. -/
theorem open_fields {H:Type} {enc:TypeId × Value→H} {P:Program} {w:World} {base b0 n0:Nat} {spare:Nat→Bool} {held:Bool} {rc:Reach} {t:TypeId} {fs:Array Field} {v:Value} {d:DataW H} {p:List MemPlace}
  (hs:P.underlying t=some (.struct fs)) (hone:Go.Deep.oneCellFields P fs=true) (hC:P.cellsOf t=n0) (hn:fs.size=n0) (hv:Value.okWide P w rc b0 t v) (h:DataW.Trod enc P w base spare held t v d p) :
  ∃ (cs:List Value) (n:Nat),v=.agg cs.toArray∧cs.length=n0∧∀ (j:Nat) (f:Field),fs[j]?=some f→∃ c y,cs[j]?=some c∧DataW.trod enc P w base spare held n f.type [c]=some y:=by
 obtain⟨⟨cs⟩,rfl,hsz⟩:=okWide_struct hs hv
 obtain⟨fuel,hf⟩:=h
 obtain⟨xs,n,_,_,_,hlen,hg⟩:=DataW.trod_struct hs hf
 have hcl:cs.length=n0:=hsz.trans hC
 refine⟨cs,n,rfl,hcl,fun j f hj=>?_⟩
 have hjl:j<fs.size:=(Array.getElem?_eq_some_iff.1 hj).1
 obtain⟨o,k⟩:=Go.Deep.hone_of hone j f hj
 have h1:=hg j f hj
 rw [o,k] at h1
 have e:((Value.agg cs.toArray).cells.toList.drop j).take 1=[cs[j]'(by omega)]:=by
  simp only [Value.cells,List.toList_toArray]
  rw [List.drop_eq_getElem_cons (by omega)]
  rfl
 rw [e] at h1
 exact⟨_,_,List.getElem?_eq_getElem (by omega),h1.trans (List.getElem?_eq_getElem (by omega))⟩
end Go.Proofs.YtacgknllagdkoaaGreatDoor
/-
 What every law on maps needs: the argument's lists, the copies of the map, the cells of the two boxes.
-/
namespace Go.Proofs.YtacgknllagdkoaaGreatDoor
open Go.ChangeShapes Go.WideShapes Go.ChangeAt Go.RowKit Go.Joins
/-- What an argument's three lists are: slices that read as lists, of Go's own lengths and numbers. -/
structure Reads (w:World) (t r d:Value) (lt lr ld:List Int):Prop where
 rt:RdI w t lt
 rr:RdI w r lr
 rd:RdI w d ld
 bt:lt.length≤9223372036854775807
 br:lr.length≤9223372036854775807
 bd:ld.length≤9223372036854775807
 it:∀ x ∈ lt,isI64 x
 ir:∀ x ∈ lr,isI64 x
 id:∀ x ∈ ld,isI64 x
theorem Own3.lists {w w0:World} {base:Nat} {t r d t0 r0 d0:Value} {lt lr ld:List Int} (o:Own3 w base t r d lt lr ld) (h:Lists w0 t0 r0 d0 lt lr ld):Lists w t r d lt lr ld :=
 ⟨o.ot.rd,o.or.rd,o.od.rd,h.bt,h.br,h.bd,h.it,h.ir,h.id⟩
theorem toMap_sl (W H:Int) (t r d:Value) (lt lr ld:List Int) (nt nr nd:Nat) (w:World) (hL:Lists w t r d lt lr ld) (h1:lt.length=nt) (h2:lr.length=nr) (h3:ld.length=nd) :
  Calls Tryz.prog 66 #[mp W H t r d] w fun e w'=>∃ (A1:Option Addr) (c1:Nat) (A2:Option Addr) (c2:Nat) (A3:Option Addr) (c3:Nat),e=.returned (mp W H (.slice A1 nt c1) (.slice A2 nr c2) (.slice A3 nd c3)) ∧
   Own3 w' w.heap.size (.slice A1 nt c1) (.slice A2 nr c2) (.slice A3 nd c3) lt lr ld∧Kp w w' :=
 (toMap_any W H t r d lt lr ld w hL).mono fun e w' ⟨t',r',d',he,ho,hk⟩=>by
  obtain⟨A1,c1,rfl⟩:=ho.ot.slice
  obtain⟨A2,c2,rfl⟩:=ho.or.slice
  obtain⟨A3,c3,rfl⟩:=ho.od.slice
  subst h1 h2 h3
  exact⟨A1,c1,A2,c2,A3,c3,he,ho,hk⟩
/-- A box for a second map behind the first. -/
theorem cellsMap:Tryz.prog.cellsOf 28=5:=by kernel_rfl
theorem five {α:Type} {l:List α} (h:l.length=5) {a b c d e:α} (h0:l[0]?=some a) (h1:l[1]?=some b) (h2:l[2]?=some c) (h3:l[3]?=some d) (h4:l[4]?=some e):l=[a,b,c,d,e]:=by
 match l,h with
 | [x0,x1,x2,x3,x4],_=>simp_all
end Go.Proofs.YtacgknllagdkoaaGreatDoor
