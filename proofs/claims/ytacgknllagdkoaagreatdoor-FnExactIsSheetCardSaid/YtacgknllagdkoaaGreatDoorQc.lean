/-
 Texts of this seat in one module: MapT, IsMapI.
-/
import Derived.Test.YtacgknllagdkoaaGreatDoorQb
/-
 The reference's lists of edges return what plain functions on lists say, and change nothing that was there.
-/
namespace Go.Proofs.YtacgknllagdkoaaGreatDoor
open Go.RowKit
/-- p stands ahead of place k of the list. -/
def Ahead (l:List Int) (k:Nat) (p:Int):Prop:=(k=0∧p=-1)∨∃ j,k=j+1∧l[j]?=some p
theorem rise_no {p x:Int} {l:List Int} (h:¬ p<x):riseFrom p (x :: l)=false:=by simp [riseFrom,h]
theorem rise_go {p x:Int} {l:List Int} (h:p<x):riseFrom p (x :: l)=riseFrom x l:=by simp [riseFrom,h]
theorem l1Rising_any (v:Value) (l:List Int) (hi:Int) (w:World) (h:RdI w v l) (hl:l.length≤1048576) (hin:∀ x ∈ l,0≤x∧x≤hi) :
  Calls Tryz.prog 161 #[v,.int .i64 0,.int .i64 hi] w fun e w'=>e=.returned (.bool (riseFrom (-1) l))∧w=w':=by
 obtain⟨A,cp,rfl,h⟩:=h
 have HA:=Lib.hid h
 have CI:∀ n w,n ∈ l→Calls Tryz.prog 63 #[.int .i64 n,.int .i64 0,.int .i64 hi] w fun e w'=>e=.returned (.bool true)∧w=w':=fun n w hn=>by
  have e:(decide (0≤n) && decide (n≤hi))=true:=by simp [hin n hn]
  rw [← e]
  exact l1In_gen n 0 hi w
 have HC:=Lib.hid CI
 have HI:=Lib.hid hin
 obtain⟨R,hR⟩:∃ R,R=riseFrom (-1) l:=⟨_,rfl⟩
 rw [← hR]
 have HR:=Lib.hid hR
 clear h hR CI hin
 generalize hn:l.length=n at *
 have HN:=Lib.hid hn
 clear hn
 go_enter Tryz.func161,Tryz.ntmps161
 go_wp2_with fail
 go_loop [7,8,11] (fun _ _ i=>∃ (k:Nat) (p:Int),k≤n∧i=.int .i64 k∧Hid (Ahead l k p∧riseFrom p (l.drop k)=R)) (fun _ _ i=>n - (intOf i).toNat)
 case atStart=>exact⟨0,-1,by omega,rfl,Lib.hid ⟨.inl ⟨rfl,rfl⟩,HR.out.symm⟩⟩
 case round =>
  obtain⟨k,p,hk,rfl,hE⟩:=hrel
  by_cases hlt:k<n
  ·obtain⟨g,off,rfl,hc⟩:=HA.out (by omega)
   obtain⟨x,hx⟩:∃ x,l[k]?=some x:=⟨l[k]'(by have:=HN.out;omega),List.getElem?_eq_getElem _⟩
   have a0:=hc k x hx
   have HX:=Lib.hid (drop_step hx)
   have Hm:=Lib.hid (List.mem_of_getElem? hx)
   have hx0:=HI.out x Hm.out
   have HXk:=Lib.hid hx
   clear hx
   have hlt':(k:Int)<n:=by omega
   have hA:=hE.out.1
   rcases hA with ⟨rfl,rfl⟩ | ⟨j,rfl,hj⟩
   ·have HE2:Hid (Ahead l 1 x∧riseFrom x (l.drop 1)=R):=Lib.hid ⟨.inr ⟨0,rfl,HXk.out⟩,by
     rw [← hE.out.2,HX.out]
     exact(rise_go (by omega)).symm⟩
    clear hc
    rw [Nat.add_zero] at a0
    go_wp2_with fail
    refine(HC.out _ _ Hm.out).mono ?_
    rintro e1 wy ⟨rfl,rfl⟩
    go_wp2_with fail
    go_round
    case rel=>exact⟨1,x,by omega,by go_num,HE2⟩
    case measure=>simp [intOf];omega
   ·have a1:=hc j p hj
    clear hc hj
    have hj0:(0:Int)<(j:Int)+1:=by omega
    have hj1:(j:Int)<n:=by omega
    by_cases hp:p<x
    ·have hp':decide (x≤p)=false:=by simp;omega
     have HE2:Hid (Ahead l (j+1+1) x∧riseFrom x (l.drop (j+1+1))=R):=Lib.hid ⟨.inr ⟨j+1,rfl,HXk.out⟩,by
      rw [← hE.out.2,HX.out]
      exact(rise_go hp).symm⟩
     go_wp2_with fail
     refine(HC.out _ _ Hm.out).mono ?_
     rintro e1 wy ⟨rfl,rfl⟩
     go_wp2_with fail
     go_round
     case rel=>exact⟨j+1+1,x,by omega,by go_num,HE2⟩
     case measure=>simp [intOf];omega
    ·have hp':x≤p:=by omega
     have HE2:Hid (R=false):=Lib.hid (by rw [← hE.out.2,HX.out];exact rise_no hp)
     go_wp2_with fail
     refine(HC.out _ _ Hm.out).mono ?_
     rintro e1 wy ⟨rfl,rfl⟩
     go_wp2_with fail
     go_ret
     exact⟨ret_bool HE2.out.symm,rfl⟩
  ·obtain rfl:k=n:=by omega
   go_wp2_with fail
   go_ret
   refine⟨ret_bool ?_,rfl⟩
   rw [← hE.out.2,List.drop_of_length_le (by rw [HN.out];omega)]
   rfl
theorem edgeB_out {W H e:Int} (h:inB e (3*(W*H))=false):edgeB W H e=false:=by
 by_cases h0:0≤e
 ·refine edgeB_big ?_ h0
  simp [inB,h0] at h
  exact h
 ·exact edgeB_neg (by omega)
theorem inB_true {n h:Int} (hh:inB n h=true):0≤n∧n<h:=by simpa [inB] using hh
theorem edgeB_true {W H e:Int} (h:edgeB W H e=true):inB e (3*(W*H))=true:=by
 cases hi:inB e (3*(W*H))
 ·rw [edgeB_out hi] at h
  cases h
 ·rfl
set_option maxHeartbeats 1000000 in
theorem mEdges_any (W H:Int) (t r d v:Value) (l:List Int) (w:World) (a:1≤W) (b:W≤10) (c:1≤H) (e:H≤10) (h:RdI w v l) (hl:l.length≤1048576) :
  Calls Tryz.prog 211 #[mp W H t r d,v] w fun e w'=>e=.returned (.bool (edgesOk W H l))∧Kp w w':=by
 have HRd:=Lib.hid h
 obtain⟨A,cp,rfl,h⟩:=h
 have HA:=Lib.hid h
 have hA:=area_bd a b c e
 rw [edgesOk_eq]
 obtain⟨R,hR⟩:∃ R,R=l.all (edgeB W H):=⟨_,rfl⟩
 rw [← hR]
 have HR:=Lib.hid hR
 obtain⟨R1,hR1⟩:∃ R,R=riseFrom (-1) l:=⟨_,rfl⟩
 rw [← hR1]
 have HR1:=Lib.hid hR1
 have HLn:=Lib.hid hl
 clear h hR hR1
 generalize hn:l.length=n at *
 have HN:=Lib.hid hn
 clear hn
 have s0:=new5 w (.int .i64 W) (.int .i64 H) t r d 45
 go_enter Tryz.func211,Tryz.ntmps211
 go_wp2_with fail
 go_loopw [6,9] (fun _ i wr=>∃ k:Nat,k≤n∧i=.int .i64 k∧Hid ((l.drop k).all (edgeB W H)=R) ∧
  (cb5 wr (w.heap.size) (.int .i64 W) (.int .i64 H) t r d (Kp w wr))) (fun _ i _=>n - (intOf i).toNat)
 case atStart=>exact⟨0,by omega,rfl,Lib.hid HR.out.symm,s0⟩
 case round =>
  clear s0
  obtain⟨k,hk,rfl,hE,sr⟩:=hrel
  by_cases hlt:k<n
  ·obtain⟨g,off,rfl,hc⟩:=HA.out (by omega)
   obtain⟨x,hx⟩:∃ x,l[k]?=some x:=⟨l[k]'(by have:=HN.out;omega),List.getElem?_eq_getElem _⟩
   have a0:=sr.2.2.2.2.2.cell (hc k x hx)
   have HX:=Lib.hid (drop_step hx)
   clear hc hx
   have hlt':(k:Int)<n:=by omega
   cases hin:inB x (3*(W*H))
   ·have HE2:Hid (R=false):=Lib.hid (by rw [← hE.out,HX.out];exact all_no (edgeB_out hin))
    go_wp2_with fail
    refine(mSize_any _ _ _ _ _ _ a b c e).mono ?_
    rintro e1 wa ⟨rfl,ka⟩
    go_wp2_with fail
    refine(l1In_lt _ (3*(W*H)) _ _ rfl).mono ?_
    rintro e2 wb ⟨rfl,rfl⟩
    go_wp2_with fail
    go_ret
    exact⟨ret_bool (by rw [HE2.out];rfl),sr.2.2.2.2.2.trans ka⟩
   ·obtain⟨x0,x1⟩:=inB_true hin
    have q0:0≤x / 3:=by omega
    have q1:x / 3<W*H:=by omega
    have q2:0≤x % 3:=by omega
    have q3:x % 3≤5:=by omega
    cases hok:nbM W H (x / 3) (x % 3)
    ·have HE2:Hid (R=false):=Lib.hid (by rw [← hE.out,HX.out];exact all_no ((edgeB_in x0 x1).trans hok))
     go_wp2_with fail
     refine(mSize_any _ _ _ _ _ _ a b c e).mono ?_
     rintro e1 wa ⟨rfl,ka⟩
     have sa:=keep5 ka sr
     clear sr
     go_wp2_with fail
     refine(l1In_lt _ (3*(W*H)) _ _ rfl).mono ?_
     rintro e2 wb ⟨rfl,rfl⟩
     go_wp2_with fail
     refine(mNext_any _ _ _ _ _ _ _ _ a b c e q0 q1 q2 q3).mono ?_
     rintro e3 wc ⟨rfl,kc⟩
     rw [hok,orNo_false]
     go_wp2_with fail
     go_ret
     exact⟨ret_bool (by rw [HE2.out];rfl),sa.2.2.2.2.2.trans kc⟩
    ·have HE2:Hid ((l.drop (k+1)).all (edgeB W H)=R):=Lib.hid (by rw [← hE.out,HX.out];exact(all_go ((edgeB_in x0 x1).trans hok)).symm)
     have n0:0≤nbI W (x / 3) (x % 3):=(idx_bd hok).1
     go_wp2_with fail
     refine(mSize_any _ _ _ _ _ _ a b c e).mono ?_
     rintro e1 wa ⟨rfl,ka⟩
     have sa:=keep5 ka sr
     clear sr
     go_wp2_with fail
     refine(l1In_lt _ (3*(W*H)) _ _ rfl).mono ?_
     rintro e2 wb ⟨rfl,rfl⟩
     go_wp2_with fail
     refine(mNext_any _ _ _ _ _ _ _ _ a b c e q0 q1 q2 q3).mono ?_
     rintro e3 wc ⟨rfl,kc⟩
     have sc:=keep5 kc sa
     clear sa
     rw [hok,orNo_true]
     go_wp2_with fail
     go_roundw
     case rel=>exact⟨k+1,by omega,by go_num,HE2,sc⟩
     case measure=>simp [intOf];omega
  ·obtain rfl:k=n:=by omega
   have hRt:R=true:=by
    rw [← hE.out,List.drop_of_length_le (by rw [HN.out];omega)]
    rfl
   have hin:∀ x ∈ l,0≤x∧x≤3*(W*H) - 1:=fun x hx=>by
    have h1:=HR.out.symm.trans hRt
    rw [List.all_eq_true] at h1
    have:=inB_true (edgeB_true (h1 x hx))
    omega
   have HI:=Lib.hid hin
   subst hRt
   clear hin
   go_wp2_with fail
   refine(mSize_any _ _ _ _ _ _ a b c e).mono ?_
   rintro e1 wa ⟨rfl,ka⟩
   have sa:=keep5 ka sr
   clear sr
   go_wp2_with fail
   refine(l1Rising_any _ l _ _ (HRd.out.keep sa.2.2.2.2.2) (by have:=HN.out;omega) HI.out).mono ?_
   rintro e2 wb ⟨rfl,rfl⟩
   go_wp2_with fail
   go_ret
   exact⟨ret_bool (by rw [HR1.out];rfl),sa.2.2.2.2.2⟩
end Go.Proofs.YtacgknllagdkoaaGreatDoor
/-
 The program's test of a map returns what a plain function on lists says, and changes nothing that was there. The table of directions holds what the program's text lays.
-/
namespace Go.Proofs.YtacgknllagdkoaaGreatDoor
open Go.RowKit
theorem drew5 {W0 w:World} {b:Nat} {v0 v1 v2 v3 v4:Value}
  (h:cb5 w b v0 v1 v2 v3 v4 (Kp W0 w)) :
  cb5 (w.drew) b v0 v1 v2 v3 v4 (Kp W0 w.drew) :=
 ⟨h.1,h.2.1,h.2.2.1,h.2.2.2.1,h.2.2.2.2.1,h.2.2.2.2.2.drew⟩
theorem isSide_q (n:Int) (w:World):Calls Tryz.prog 245 #[.int .i64 n] w fun e w'=>e=.returned (.bool (sideB n))∧w'=w :=
 (isSide_any n w).mono fun _ _ ⟨he,hw⟩=>⟨he,hw.symm⟩
theorem isMap_no1 (W H:Int) (At:Option Addr) (nt ct:Nat) (r d:Value) (w:World) (h:sideB W=false) :
  Calls Tryz.prog 214 #[mp W H (.slice At nt ct) r d] w fun e w'=>e=.returned (.bool false)∧Kp w w':=by
 go_enter Tryz.func214,Tryz.ntmps214
 go_wp2_with fail
 go_quiet ((go_at_call 245;exact Calls.quiet_of_same (isSide_q _ _)))
 go_wp2_with fail
 go_ret
 exact⟨rfl,((Kp.refl _).alloc _).drewN _⟩
theorem isMap_no2 (W H:Int) (At:Option Addr) (nt ct:Nat) (r d:Value) (w:World) (h:sideB W=true) (h':sideB H=false) :
  Calls Tryz.prog 214 #[mp W H (.slice At nt ct) r d] w fun e w'=>e=.returned (.bool false)∧Kp w w':=by
 go_enter Tryz.func214,Tryz.ntmps214
 go_wp2_with fail
 go_quiet ((go_at_call 245;exact Calls.quiet_of_same (isSide_q _ _)))
 go_wp2_with fail
 go_ret
 exact⟨rfl,((Kp.refl _).alloc _).drewN _⟩
set_option maxHeartbeats 2000000 in
theorem isMap_no3 (W H:Int) (At:Option Addr) (nt ct:Nat) (r d:Value) (w:World) (h:sideB W=true) (h':sideB H=true) (hn:¬ (nt:Int)=W*H) :
  Calls Tryz.prog 214 #[mp W H (.slice At nt ct) r d] w fun e w'=>e=.returned (.bool false)∧Kp w w':=by
 have s0:=new5 w (.int .i64 W) (.int .i64 H) (.slice At nt ct) r d 45
 obtain⟨a,b⟩:=sideB_true h
 obtain⟨c,e⟩:=sideB_true h'
 have hne:((nt:Int) != W*H)=true:=by simpa using hn
 go_enter Tryz.func214,Tryz.ntmps214
 go_wp2_with fail
 generalize w.alloc (.cells #[.int .i64 W,.int .i64 H,.slice At nt ct,r,d] 45)=W0 at *
 have s1:=drew5 s0
 go_region_held3 (fun w'=>cb5 w' (w.heap.size) (.int .i64 W) (.int .i64 H) (.slice At nt ct) r d (Kp w w')) (first | assumption | exact s1)
  (first
   | (go_at_call 245;refine(isSide_any _ _).mono ?_;rintro e wz ⟨rfl,rfl⟩)
   | (go_at_call 160;refine(countHexes_any _ _ _ _ _ _ a b c e).mono ?_;rintro e2 wz ⟨rfl,kz⟩;have sz:=keep5 kz (by assumption)))
 all_goals
  go_wp2_with fail
  go_ret
  exact⟨rfl,sz.2.2.2.2.2⟩
set_option maxHeartbeats 4000000 in
theorem isMap_yes (W H:Int) (t r d:Value) (lt lr ld:List Int) (w:World) (ht:Tab w) (hL:Lists w t r d lt lr ld) (h:sideB W=true) (h':sideB H=true) (hn:(lt.length:Int)=W*H) :
  Calls Tryz.prog 214 #[mp W H t r d] w fun e w'=>e=.returned (.bool (lt.all terrB && (edgesOk W H lr && edgesOk W H ld)))∧Kp w w':=by
 obtain⟨a,b⟩:=sideB_true h
 obtain⟨c,e⟩:=sideB_true h'
 have hA:=area_bd a b c e
 have HL:=Lib.hid hL
 have HT:=Lib.hid ht
 obtain⟨At,ct,rfl,HAt⟩:=hL.rt
 obtain⟨Ar,cr,rfl,_⟩:=hL.rr
 obtain⟨Ad,cd,rfl,_⟩:=hL.rd
 have HA:=Lib.hid HAt
 have h1048:=hL.bt
 obtain⟨R,hR⟩:∃ R,R=lt.all terrB:=⟨_,rfl⟩
 obtain⟨R1,hR1⟩:∃ R,R=edgesOk W H lr:=⟨_,rfl⟩
 obtain⟨R2,hR2⟩:∃ R,R=edgesOk W H ld:=⟨_,rfl⟩
 rw [← hR,← hR1,← hR2]
 have HR:=Lib.hid hR
 have HR1:=Lib.hid hR1
 have HR2:=Lib.hid hR2
 have hne:((lt.length:Int) != W*H)=false:=by simpa using hn
 clear HAt hL ht hn hR hR1 hR2
 generalize hn:lt.length=nt at *
 have HN:=Lib.hid hn
 clear hn
 generalize lr.length=nr at *
 generalize ld.length=nd at *
 have s0:=new5 w (.int .i64 W) (.int .i64 H) (.slice At nt ct) (.slice Ar nr cr) (.slice Ad nd cd) 45
 go_enter Tryz.func214,Tryz.ntmps214
 go_wp2_with fail
 generalize w.alloc (.cells #[.int .i64 W,.int .i64 H,.slice At nt ct,.slice Ar nr cr,.slice Ad nd cd] 45)=W0 at *
 have s1:=drew5 s0
 go_region_held3 (fun w'=>cb5 w' (w.heap.size) (.int .i64 W) (.int .i64 H) (.slice At nt ct) (.slice Ar nr cr) (.slice Ad nd cd) (Kp w w')) (first | assumption | exact s1)
  (first
   | (go_at_call 245;refine(isSide_any _ _).mono ?_;rintro e wz ⟨rfl,rfl⟩)
   | (go_at_call 160;refine(countHexes_any _ _ _ _ _ _ a b c e).mono ?_;rintro e2 wz ⟨rfl,kz⟩;have sz:=keep5 kz (by assumption)))
 clear s0 s1 hne
 go_wp2_with fail
 go_loop [4,28] (fun _ i=>∃ k:Nat,k≤nt∧i=.int .i64 k∧Hid ((lt.drop k).all terrB=R)) (fun _ i=>nt - (intOf i).toNat)
 case atStart=>exact⟨0,by omega,rfl,Lib.hid HR.out.symm⟩
 case round =>
  obtain⟨k,hk,rfl,hE⟩:=hrel
  by_cases hlt:k<nt
  ·obtain⟨g,off,rfl,hc⟩:=HA.out (by omega)
   obtain⟨x,hx⟩:∃ x,lt[k]?=some x:=⟨lt[k]'(by have:=HN.out;omega),List.getElem?_eq_getElem _⟩
   have a0:=sz.2.2.2.2.2.cell (hc k x hx)
   have HX:=Lib.hid (drop_step hx)
   clear hc hx
   have hlt':(k:Int)<nt:=by omega
   cases hok:terrB x
   ·go_wp2_with fail
    refine(isTerrain_any _ _).mono ?_
    rintro e1 wy ⟨rfl,rfl⟩
    go_wp2_with fail
    go_ret
    have e:R=false:=by rw [← hE.out,HX.out];exact all_no hok
    exact⟨ret_bool (by rw [e];rfl),sz.2.2.2.2.2⟩
   ·have HE2:Hid ((lt.drop (k+1)).all terrB=R):=Lib.hid (by rw [← hE.out,HX.out];exact(all_go hok).symm)
    go_wp2_with fail
    refine(isTerrain_any _ _).mono ?_
    rintro e1 wy ⟨rfl,rfl⟩
    go_wp2_with fail
    go_round
    case rel=>exact⟨k+1,by omega,by go_num,HE2⟩
    case measure=>simp [intOf];omega
  ·obtain rfl:k=nt:=by omega
   have hRt:R=true:=by
    rw [← hE.out,List.drop_of_length_le (by rw [HN.out];omega)]
    rfl
   have i0:=index0 (.slice Ar nr cr) (.slice Ad nd cd)
   have i1:=index1 (.slice Ar nr cr) (.slice Ad nd cd)
   subst hRt
   go_wp2_with fail
   refine(edgeListsOf_any _ _ _ _ _ _ _ _ _ _).mono ?_
   rintro e1 wy ⟨rfl,ky⟩
   have sy:=keep5 ky sz
   clear sz ky
   go_wp2_with fail
   go_loopw [6,38] (fun _ i wr=>∃ j:Nat,j≤2∧i=.int .i64 j∧Hid ((1≤j→R1=true)∧(2≤j→R2=true)) ∧
    (cb5 wr (w.heap.size) (.int .i64 W) (.int .i64 H) (.slice At k ct) (.slice Ar nr cr) (.slice Ad nd cd) (Kp w wr))) (fun _ i _=>2 - (intOf i).toNat)
   case atStart=>exact⟨0,by omega,rfl,Lib.hid ⟨fun h=>absurd h (by omega),fun h=>absurd h (by omega)⟩,sy⟩
   case round =>
    clear sy
    obtain⟨j,hj,rfl,hJ,sr⟩:=hrel
    match j,hj with
    | 0,_ =>
     have HLr:=Lib.hid (HL.out.keep sr.2.2.2.2.2)
     cases hr1:R1
     ·have HZ:Hid (edgesOk W H lr=false):=Lib.hid (by rw [← HR1.out,hr1])
      go_wp2_with fail
      refine(areEdges_any _ _ _ _ _ _ lr _ a b c e (HT.out.k5 sr) HLr.out.rr HLr.out.ir HLr.out.br).mono ?_
      rintro e1 wx ⟨rfl,kx⟩
      rw [HZ.out]
      go_wp2_with fail
      go_ret
      exact⟨ret_bool (by simp [*]),sr.2.2.2.2.2.trans kx⟩
     ·have HZ:Hid (edgesOk W H lr=true):=Lib.hid (by rw [← HR1.out,hr1])
      go_wp2_with fail
      refine(areEdges_any _ _ _ _ _ _ lr _ a b c e (HT.out.k5 sr) HLr.out.rr HLr.out.ir HLr.out.br).mono ?_
      rintro e1 wx ⟨rfl,kx⟩
      have sx:=keep5 kx sr
      rw [HZ.out]
      go_wp2_with fail
      go_roundw
      case rel=>exact⟨1,by omega,rfl,Lib.hid ⟨fun _=>by first | trivial | assumption,fun h=>absurd h (by omega)⟩,sx⟩
      case measure=>simp [intOf]
    | 1,_ =>
     have HLr:=Lib.hid (HL.out.keep sr.2.2.2.2.2)
     have hr1:=hJ.out.1 (by omega)
     subst hr1
     cases hr2:R2
     ·have HZ:Hid (edgesOk W H ld=false):=Lib.hid (by rw [← HR2.out,hr2])
      go_wp2_with fail
      refine(areEdges_any _ _ _ _ _ _ ld _ a b c e (HT.out.k5 sr) HLr.out.rd HLr.out.id HLr.out.bd).mono ?_
      rintro e1 wx ⟨rfl,kx⟩
      rw [HZ.out]
      go_wp2_with fail
      go_ret
      exact⟨ret_bool (by simp [*]),sr.2.2.2.2.2.trans kx⟩
     ·have HZ:Hid (edgesOk W H ld=true):=Lib.hid (by rw [← HR2.out,hr2])
      go_wp2_with fail
      refine(areEdges_any _ _ _ _ _ _ ld _ a b c e (HT.out.k5 sr) HLr.out.rd HLr.out.id HLr.out.bd).mono ?_
      rintro e1 wx ⟨rfl,kx⟩
      have sx:=keep5 kx sr
      rw [HZ.out]
      go_wp2_with fail
      go_roundw
      case rel=>exact⟨2,by omega,rfl,Lib.hid ⟨fun _=>by first | trivial | rfl,fun _=>by first | trivial | assumption⟩,sx⟩
      case measure=>simp [intOf]
    | 2,_ =>
     have hr1:=hJ.out.1 (by omega)
     have hr2:=hJ.out.2 (by omega)
     subst hr1
     subst hr2
     go_wp2_with fail
     go_ret
     exact⟨ret_bool rfl,sr.2.2.2.2.2⟩
theorem isMap_any (W H:Int) (t r d:Value) (lt lr ld:List Int) (w:World) (ht:Tab w) (hL:Lists w t r d lt lr ld) :
  Calls Tryz.prog 214 #[mp W H t r d] w fun e w'=>e=.returned (.bool (mapOk W H lt lr ld))∧Kp w w':=by
 cases h:sideB W
 ·obtain⟨At,ct,rfl,_⟩:=hL.rt
  have e:mapOk W H lt lr ld=false:=by simp [mapOk,h]
  rw [e]
  exact isMap_no1 W H _ _ _ r d w h
 ·cases h':sideB H
  ·obtain⟨At,ct,rfl,_⟩:=hL.rt
   have e:mapOk W H lt lr ld=false:=by simp [mapOk,h']
   rw [e]
   exact isMap_no2 W H _ _ _ r d w h h'
  ·by_cases hn:(lt.length:Int)=W*H
   ·have e:mapOk W H lt lr ld=(lt.all terrB && (edgesOk W H lr && edgesOk W H ld)):=by simp [mapOk,h,h',hn]
    rw [e]
    exact isMap_yes W H t r d lt lr ld w ht hL h h' hn
   ·obtain⟨At,ct,rfl,_⟩:=hL.rt
    have e:mapOk W H lt lr ld=false:=by simp [mapOk,hn]
    rw [e]
    exact isMap_no3 W H _ _ _ r d w h h' hn
end Go.Proofs.YtacgknllagdkoaaGreatDoor
