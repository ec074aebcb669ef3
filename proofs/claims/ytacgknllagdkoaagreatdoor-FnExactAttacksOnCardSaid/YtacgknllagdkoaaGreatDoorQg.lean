/-
 Texts of this seat in one module: RulI, RulE, Law, OpenI, MapL, ToMap.
-/
import Derived.Test.YtacgknllagdkoaaGreatDoorRows
import Derived.ProofKit
import Derived.OpenVars
import Derived.Below
import Derived.Lib.SmallJoins
import Derived.OpenShut
import Derived.Test.YtacgknllagdkoaaGreatDoorQa
import Derived.Test.YtacgknllagdkoaaGreatDoorQb
import Derived.Test.YtacgknllagdkoaaGreatDoorQf
/-
 The program's test of a terrain's numbers and its test of rules return what plain functions on lists say, and change nothing that was there. The ranges hold what the program's text lays.
-/
namespace Go.Proofs.YtacgknllagdkoaaGreatDoor
open Go.RowKit
abbrev tv (n:ByteArray) (A:Option Addr) (nc cc:Nat) (s h:Int) (b:Bool):Value:=.agg #[.string n,.slice A nc cc,.int .i64 s,.int .i64 h,.bool b]
theorem dropA {α:Type} {l:List α} {k:Nat} {x:α} (h:l[k]?=some x):l.drop k=x :: l.drop (k+1):=by
 obtain⟨hk,rfl⟩:=List.getElem?_eq_some_iff.1 h
 exact List.drop_eq_getElem_cons hk
theorem allA_no {α:Type} {f:α→Bool} {x:α} {l:List α} (h:f x=false):(x :: l).all f=false:=by simp [h]
theorem allA_go {α:Type} {f:α→Bool} {x:α} {l:List α} (h:f x=true):(x :: l).all f=l.all f:=by simp [h]
set_option maxRecDepth 100000 in
set_option maxHeartbeats 2000000 in
theorem tNumbers_any (n:ByteArray) (A:Option Addr) (nc cc:Nat) (s h:Int) (b:Bool) (l:List Int) (nk:Nat) (w:World) (hs:Spans w) (hl:l.length=nc) (hr:RdI w (.slice A nc cc) l) (hn:nc≤1048576) (_hk:nk≤1048576) :
  Calls Tryz.prog 240 #[tv n A nc cc s h b,.int .i64 (nk:Int)] w fun e w'=>e=.returned (.bool (numT nk ⟨n,l,s,h,b⟩))∧Kp w w':=by
 have s0:cb5 (w.alloc (.cells #[.string n,.slice A nc cc,.int .i64 s,.int .i64 h,.bool b] 230)) (w.heap.size) (.string n) (.slice A nc cc) (.int .i64 s) (.int .i64 h) (.bool b) (cb2 (w.alloc (.cells #[.string n,.slice A nc cc,.int .i64 s,.int .i64 h,.bool b] 230)) 17 (.int .i64 0) (.int .i64 9) (cb2 (w.alloc (.cells #[.string n,.slice A nc cc,.int .i64 s,.int .i64 h,.bool b] 230)) 18 (.int .i64 (-3)) (.int .i64 3) (cb2 (w.alloc (.cells #[.string n,.slice A nc cc,.int .i64 s,.int .i64 h,.bool b] 230)) 19 (.int .i64 0) (.int .i64 3) (Kp w (w.alloc (.cells #[.string n,.slice A nc cc,.int .i64 s,.int .i64 h,.bool b] 230)))))) :=
  ⟨by simp [go_sem],by simp [go_sem],by simp [go_sem],by simp [go_sem],by simp [go_sem],((Kp.refl w).alloc _).cell hs.cost.1,((Kp.refl w).alloc _).cell hs.cost.2,((Kp.refl w).alloc _).cell hs.shift.1,((Kp.refl w).alloc _).cell hs.shift.2,((Kp.refl w).alloc _).cell hs.height.1,((Kp.refl w).alloc _).cell hs.height.2,(Kp.refl w).alloc _⟩
 have HA:Hid (0<nc→∃ g off,A=some ⟨g,off,none⟩∧∀ i x,l[i]?=some x→w.cell? ⟨g,off+i,none⟩=some (.int .i64 x)):=Lib.hid (by
  obtain⟨A',c',e,hr⟩:=hr
  simp only [Value.slice.injEq] at e
  obtain⟨rfl,_,_⟩:=e
  rw [hl] at hr
  exact hr)
 have HN:=Lib.hid hl
 clear hs hr hl
 by_cases hne:nc=nk
 ·have en:numT nk ⟨n,l,s,h,b⟩=(l.all (spB 0 9) && (spB (-3) 3 s && spB 0 3 h)):=by simp [numT,HN.out,hne]
  rw [en]
  have q1:((nc:Int) != (nk:Int))=false:=by simp;omega
  have q2:(nc != nk)=false:=by simpa using hne
  obtain⟨R,hR⟩:∃ R,R=l.all (spB 0 9):=⟨_,rfl⟩
  rw [← hR]
  have HR:=Lib.hid hR
  clear en hR hne
  go_enter Tryz.func240,Tryz.ntmps240
  go_wp2_with fail
  generalize w.alloc (.cells #[.string n,.slice A nc cc,.int .i64 s,.int .i64 h,.bool b] 230)=W0 at *
  go_loopw [6,15] (fun _ i wr=>∃ k:Nat,k≤nc∧i=.int .i64 k∧Hid ((l.drop k).all (spB 0 9)=R)∧Kp W0 wr) (fun _ i _=>nc - (intOf i).toNat)
  case atStart=>exact⟨0,by omega,rfl,Lib.hid HR.out.symm,Kp.refl _⟩
  case round =>
   obtain⟨k,hk,rfl,hE,kr⟩:=hrel
   by_cases hlt:k<nc
   ·have hlt':(k:Int)<nc:=by omega
    obtain⟨g,off,rfl,hc⟩:=HA.out (by omega)
    obtain⟨x,hx⟩:∃ x,l[k]?=some x:=⟨l[k]'(by have:=HN.out;omega),List.getElem?_eq_getElem _⟩
    have a0:=kr.cell (s0.2.2.2.2.2.2.2.2.2.2.2.cell (hc k x hx))
    have HX:=Lib.hid (dropA hx)
    have c0:=kr.cell s0.2.2.2.2.2.1
    have c1:=kr.cell s0.2.2.2.2.2.2.1
    clear hc hx
    cases hok:spB 0 9 x
    ·have HE2:Hid (R=false):=Lib.hid (by rw [← hE.out,HX.out];exact allA_no hok)
     go_wp2_with fail
     refine(has_any _ _ _ _).mono ?_
     rintro e1 wa ⟨rfl,ka⟩
     go_wp2_with fail
     go_ret
     exact⟨ret_bool (by rw [HE2.out];rfl),s0.2.2.2.2.2.2.2.2.2.2.2.trans (kr.trans ka)⟩
    ·have HE2:Hid ((l.drop (k+1)).all (spB 0 9)=R):=Lib.hid (by rw [← hE.out,HX.out];exact(allA_go hok).symm)
     go_wp2_with fail
     refine(has_any _ _ _ _).mono ?_
     rintro e1 wa ⟨rfl,ka⟩
     go_wp2_with fail
     go_roundw
     case rel=>exact⟨k+1,by omega,by go_num,HE2,kr.trans ka⟩
     case measure=>simp [intOf];omega
   ·obtain rfl:k=nc:=by omega
    have HR1:Hid (R=true):=Lib.hid (by rw [← hE.out,List.drop_of_length_le (by rw [HN.out];omega)];rfl)
    have c0:=kr.cell s0.2.2.2.2.2.2.2.1
    have c1:=kr.cell s0.2.2.2.2.2.2.2.2.1
    have c2:=kr.cell s0.2.2.1
    cases h1:spB (-3) 3 s
    ·go_wp2_with fail
     refine(has_any _ _ _ _).mono ?_
     rintro e1 wa ⟨rfl,ka⟩
     go_wp2_with fail
     go_ret
     exact⟨ret_bool (by rw [HR1.out,h1];rfl),s0.2.2.2.2.2.2.2.2.2.2.2.trans (kr.trans ka)⟩
    ·go_wp2_with fail
     refine(has_any _ _ _ _).mono ?_
     rintro e1 wa ⟨rfl,ka⟩
     have Ka:Kp W0 wa:=kr.trans ka
     have d0:=Ka.cell s0.2.2.2.2.2.2.2.2.2.1
     have d1:=Ka.cell s0.2.2.2.2.2.2.2.2.2.2.1
     have d2:=Ka.cell s0.2.2.2.1
     go_wp2_with fail
     refine(has_any _ _ _ _).mono ?_
     rintro e2 wb ⟨rfl,kb⟩
     go_wp2_with fail
     go_ret
     exact⟨ret_bool (by rw [HR1.out,h1];rfl),s0.2.2.2.2.2.2.2.2.2.2.2.trans (Ka.trans kb)⟩
 ·have en:numT nk ⟨n,l,s,h,b⟩=false:=by simp [numT,HN.out,hne]
  rw [en]
  have q1:((nc:Int) != (nk:Int))=true:=by simp;omega
  have q2:(nc != nk)=true:=by simpa using hne
  have KE:=Lib.hid s0.2.2.2.2.2.2.2.2.2.2.2
  clear en hne s0
  go_enter Tryz.func240,Tryz.ntmps240
  go_wp2_with fail
  go_ret
  exact⟨rfl,KE.out⟩
end Go.Proofs.YtacgknllagdkoaaGreatDoor
/-
 The laws' comparison of rules: two that hold the same lists and numbers are equal. Nothing that was there is changed.
-/
namespace Go.Proofs.YtacgknllagdkoaaGreatDoor
open Go.RowKit
theorem keepc5 {w w1:World} {p0 p1 p2 p3 p4:Addr} {v0 v1 v2 v3 v4:Value} (k:Kp w w1) (h:w.cell? p0=some v0∧w.cell? p1=some v1∧w.cell? p2=some v2∧w.cell? p3=some v3∧w.cell? p4=some v4):w1.cell? p0=some v0∧w1.cell? p1=some v1∧w1.cell? p2=some v2∧w1.cell? p3=some v3∧w1.cell? p4=some v4 :=
 ⟨k.cell h.1,k.cell h.2.1,k.cell h.2.2.1,k.cell h.2.2.2.1,k.cell h.2.2.2.2⟩
theorem keepc6 {w w1:World} {p0 p1 p2 p3 p4 p5:Addr} {v0 v1 v2 v3 v4 v5:Value} (k:Kp w w1) (h:w.cell? p0=some v0∧w.cell? p1=some v1∧w.cell? p2=some v2∧w.cell? p3=some v3∧w.cell? p4=some v4∧w.cell? p5=some v5):w1.cell? p0=some v0∧w1.cell? p1=some v1∧w1.cell? p2=some v2∧w1.cell? p3=some v3∧w1.cell? p4=some v4∧w1.cell? p5=some v5 :=
 ⟨k.cell h.1,k.cell h.2.1,k.cell h.2.2.1,k.cell h.2.2.2.1,k.cell h.2.2.2.2.1,k.cell h.2.2.2.2.2⟩
theorem keepc10 {w w1:World} {p0 p1 p2 p3 p4 p5 p6 p7 p8 p9:Addr} {v0 v1 v2 v3 v4 v5 v6 v7 v8 v9:Value} (k:Kp w w1) (h:w.cell? p0=some v0∧w.cell? p1=some v1∧w.cell? p2=some v2∧w.cell? p3=some v3∧w.cell? p4=some v4∧w.cell? p5=some v5∧w.cell? p6=some v6∧w.cell? p7=some v7∧w.cell? p8=some v8∧w.cell? p9=some v9):w1.cell? p0=some v0∧w1.cell? p1=some v1∧w1.cell? p2=some v2∧w1.cell? p3=some v3∧w1.cell? p4=some v4∧w1.cell? p5=some v5∧w1.cell? p6=some v6∧w1.cell? p7=some v7∧w1.cell? p8=some v8∧w1.cell? p9=some v9 :=
 ⟨k.cell h.1,k.cell h.2.1,k.cell h.2.2.1,k.cell h.2.2.2.1,k.cell h.2.2.2.2.1,k.cell h.2.2.2.2.2.1,k.cell h.2.2.2.2.2.2.1,k.cell h.2.2.2.2.2.2.2.1,k.cell h.2.2.2.2.2.2.2.2.1,k.cell h.2.2.2.2.2.2.2.2.2⟩
theorem keepc12 {w w1:World} {p0 p1 p2 p3 p4 p5 p6 p7 p8 p9 p10 p11:Addr} {v0 v1 v2 v3 v4 v5 v6 v7 v8 v9 v10 v11:Value} (k:Kp w w1) (h:w.cell? p0=some v0∧w.cell? p1=some v1∧w.cell? p2=some v2∧w.cell? p3=some v3∧w.cell? p4=some v4∧w.cell? p5=some v5∧w.cell? p6=some v6∧w.cell? p7=some v7∧w.cell? p8=some v8∧w.cell? p9=some v9∧w.cell? p10=some v10∧w.cell? p11=some v11):w1.cell? p0=some v0∧w1.cell? p1=some v1∧w1.cell? p2=some v2∧w1.cell? p3=some v3∧w1.cell? p4=some v4∧w1.cell? p5=some v5∧w1.cell? p6=some v6∧w1.cell? p7=some v7∧w1.cell? p8=some v8∧w1.cell? p9=some v9∧w1.cell? p10=some v10∧w1.cell? p11=some v11 :=
 ⟨k.cell h.1,k.cell h.2.1,k.cell h.2.2.1,k.cell h.2.2.2.1,k.cell h.2.2.2.2.1,k.cell h.2.2.2.2.2.1,k.cell h.2.2.2.2.2.2.1,k.cell h.2.2.2.2.2.2.2.1,k.cell h.2.2.2.2.2.2.2.2.1,k.cell h.2.2.2.2.2.2.2.2.2.1,k.cell h.2.2.2.2.2.2.2.2.2.2.1,k.cell h.2.2.2.2.2.2.2.2.2.2.2⟩
theorem RdI.of_slice {w:World} {A:Option Addr} {n c:Nat} {l:List Int} (h:RdI w (.slice A n c) l):l.length=n:=by
 obtain⟨A',c',e,_⟩:=h
 simp only [Value.slice.injEq] at e
 exact e.2.1.symm
set_option maxRecDepth 100000 in
set_option maxHeartbeats 1000000 in
theorem eqTerrain_same (nm:ByteArray) (A B:Option Addr) (nc ca cb:Nat) (s h:Int) (b:Bool) (l:List Int) (w:World) (ha:RdI w (.slice A nc ca) l) (hb:RdI w (.slice B nc cb) l) (hn:nc≤1048576) :
  Calls Tryz.prog 193 #[tv nm A nc ca s h b,tv nm B nc cb s h b] w fun e w'=>e=.returned (.bool true)∧Kp w w':=by
 have hl:l.length≤1048576:=by rw [ha.of_slice];exact hn
 have KA:Kp w ((w.alloc (.cells #[.string nm,.slice A nc ca,.int .i64 s,.int .i64 h,.bool b] 230)).alloc (.cells #[.string nm,.slice B nc cb,.int .i64 s,.int .i64 h,.bool b] 230)):=((Kp.refl w).alloc _).alloc _
 have HA:=Lib.hid (ha.keep KA)
 have HB:=Lib.hid (hb.keep KA)
 have e1:(nm.toList != nm.toList)=false:=by simp
 have e2:(s != s)=false:=by simp
 have e3:(h != h)=false:=by simp
 have e4:(b != b)=false:=by simp
 have HL:=Lib.hid hl
 clear ha hb hl
 go_enter Tryz.func193,Tryz.ntmps193
 go_wp2_with fail
 refine(eqIntS_same _ _ l _ HA.out HB.out HL.out).mono ?_
 rintro x1 w1 ⟨rfl,k1⟩
 have p2:w1.cell? ⟨w.heap.size,2,none⟩=some (.int .i64 s):=k1.cell (by simp [go_sem])
 have p3:w1.cell? ⟨w.heap.size,3,none⟩=some (.int .i64 h):=k1.cell (by simp [go_sem])
 have p4:w1.cell? ⟨w.heap.size,4,none⟩=some (.bool b):=k1.cell (by simp [go_sem])
 have q2:w1.cell? ⟨w.heap.size+1,2,none⟩=some (.int .i64 s):=k1.cell (by simp [go_sem])
 have q3:w1.cell? ⟨w.heap.size+1,3,none⟩=some (.int .i64 h):=k1.cell (by simp [go_sem])
 have q4:w1.cell? ⟨w.heap.size+1,4,none⟩=some (.bool b):=k1.cell (by simp [go_sem])
 have K1:Kp w w1:=KA.trans k1
 clear k1 KA
 go_wp2_with fail
 go_ret
 exact⟨rfl,K1⟩
theorem eqKind_same (nm:ByteArray) (a b c:Int) (z:Bool) (v:Int) (w:World) :
  Calls Tryz.prog 194 #[kv nm a b c z v,kv nm a b c z v] w fun e w'=>e=.returned (.bool true)∧Kp w w':=by
 have e1:(nm.toList != nm.toList)=false:=by simp
 have e2:(a != a)=false:=by simp
 have e3:(b != b)=false:=by simp
 have e4:(c != c)=false:=by simp
 have e5:(z != z)=false:=by simp
 have e6:(v != v)=false:=by simp
 go_enter Tryz.func194,Tryz.ntmps194
 go_wp2_with fail
 go_ret
 exact⟨rfl,((Kp.refl w).alloc _).alloc _⟩
set_option maxRecDepth 100000 in
set_option maxHeartbeats 2000000 in
theorem eqTerrainS_same (A B:Option Addr) (n ca cb:Nat) (l:List Ter) (w:World) (ha:RdT w A n l) (hb:RdT w B n l) (hn:n≤1048576) (hcb:∀ x ∈ l,x.cost.length≤1048576) :
  Calls Tryz.prog 140 #[.slice A n ca,.slice B n cb] w fun e w'=>e=.returned (.bool true)∧Kp w w':=by
 have HA:=Lib.hid ha.2
 have HB:=Lib.hid hb.2
 have HN:=Lib.hid ha.1
 have HB2:=Lib.hid hcb
 clear hcb
 clear ha hb
 go_enter Tryz.func140,Tryz.ntmps140
 go_wp2_with fail
 go_loopw [5] (fun i wr=>∃ k:Nat,k≤n∧i=.int .i64 k∧Kp w wr) (fun i _=>n - (intOf i).toNat)
 case atStart=>exact⟨0,by omega,rfl,Kp.refl _⟩
 case round =>
  obtain⟨k,hk,rfl,kr⟩:=hrel
  by_cases hlt:k<n
  ·have hlt':(k:Int)<n:=by omega
   obtain⟨ga,oa,rfl,ca'⟩:=HA.out (by omega)
   obtain⟨gb,ob,rfl,cb'⟩:=HB.out (by omega)
   obtain⟨x,hx⟩:∃ x,l[k]?=some x:=⟨l[k]'(by have:=HN.out;omega),List.getElem?_eq_getElem _⟩
   obtain⟨Aa,xca,⟨a0,a1,a2,a3,a4⟩,ra⟩:=(ca' k x hx).keep kr
   obtain⟨Ab,xcb,⟨b0,b1,b2,b3,b4⟩,rb⟩:=(cb' k x hx).keep kr
   have hnc:=HB2.out x (List.mem_of_getElem? hx)
   obtain⟨nm,cs,sh,hg,bl⟩:=x
   simp only at a0 a1 a2 a3 a4 b0 b1 b2 b3 b4 ra rb hnc
   generalize cs.length=nc at a1 b1 ra rb hnc
   have RA:=Lib.hid (ra.keep (Kp.refl wr).drew)
   have RB:=Lib.hid (rb.keep (Kp.refl wr).drew)
   clear ra rb
   clear ca' cb' hx
   go_wp2_with fail
   go_region_held3 (fun w'=>w'.cell? ⟨ga,oa+k*5,none⟩=some (.string nm)∧w'.cell? ⟨ga,oa+k*5+1,none⟩=some (.slice Aa nc xca)∧w'.cell? ⟨ga,oa+k*5+2,none⟩=some (.int .i64 sh)∧w'.cell? ⟨ga,oa+k*5+3,none⟩=some (.int .i64 hg)∧w'.cell? ⟨ga,oa+k*5+4,none⟩=some (.bool bl)∧w'.cell? ⟨gb,ob+k*5,none⟩=some (.string nm)∧w'.cell? ⟨gb,ob+k*5+1,none⟩=some (.slice Ab nc xcb)∧w'.cell? ⟨gb,ob+k*5+2,none⟩=some (.int .i64 sh)∧w'.cell? ⟨gb,ob+k*5+3,none⟩=some (.int .i64 hg)∧w'.cell? ⟨gb,ob+k*5+4,none⟩=some (.bool bl)) (first | assumption | go_keep)
    (first | (go_at_call 193;refine(eqTerrain_same _ _ _ _ _ _ _ _ _ cs _ RA.out RB.out hnc).mono ?_;rintro e w1 ⟨rfl,k1⟩;have s1:=keepc10 k1 (by assumption)))
   all_goals
    go_wp2_with fail
    go_roundw
    case rel=>exact⟨k+1,by omega,by go_num,kr.drew.trans k1⟩
    case measure=>simp [intOf];omega
  ·obtain rfl:k=n:=by omega
   go_wp2_with fail
   go_ret
   exact⟨rfl,kr⟩
set_option maxRecDepth 100000 in
set_option maxHeartbeats 2000000 in
theorem eqKindS_same (A B:Option Addr) (n ca cb:Nat) (l:List Knd) (w:World) (ha:RdK w A n l) (hb:RdK w B n l) (hn:n≤1048576) :
  Calls Tryz.prog 141 #[.slice A n ca,.slice B n cb] w fun e w'=>e=.returned (.bool true)∧Kp w w':=by
 have HA:=Lib.hid ha.2
 have HB:=Lib.hid hb.2
 have HN:=Lib.hid ha.1
 skip
 clear ha hb
 go_enter Tryz.func141,Tryz.ntmps141
 go_wp2_with fail
 go_loopw [5] (fun i wr=>∃ k:Nat,k≤n∧i=.int .i64 k∧Kp w wr) (fun i _=>n - (intOf i).toNat)
 case atStart=>exact⟨0,by omega,rfl,Kp.refl _⟩
 case round =>
  obtain⟨k,hk,rfl,kr⟩:=hrel
  by_cases hlt:k<n
  ·have hlt':(k:Int)<n:=by omega
   obtain⟨ga,oa,rfl,ca'⟩:=HA.out (by omega)
   obtain⟨gb,ob,rfl,cb'⟩:=HB.out (by omega)
   obtain⟨x,hx⟩:∃ x,l[k]?=some x:=⟨l[k]'(by have:=HN.out;omega),List.getElem?_eq_getElem _⟩
   obtain⟨a0,a1,a2,a3,a4,a5⟩:=(ca' k x hx).keep kr
   obtain⟨b0,b1,b2,b3,b4,b5⟩:=(cb' k x hx).keep kr
   obtain⟨nm,ks,km,kt,kz,kw⟩:=x
   simp only at a0 a1 a2 a3 a4 a5 b0 b1 b2 b3 b4 b5
   clear ca' cb' hx
   go_wp2_with fail
   go_region_held3 (fun w'=>w'.cell? ⟨ga,oa+k*6,none⟩=some (.string nm)∧w'.cell? ⟨ga,oa+k*6+1,none⟩=some (.int .i64 ks)∧w'.cell? ⟨ga,oa+k*6+2,none⟩=some (.int .i64 km)∧w'.cell? ⟨ga,oa+k*6+3,none⟩=some (.int .i64 kt)∧w'.cell? ⟨ga,oa+k*6+4,none⟩=some (.bool kz)∧w'.cell? ⟨ga,oa+k*6+5,none⟩=some (.int .i64 kw)∧w'.cell? ⟨gb,ob+k*6,none⟩=some (.string nm)∧w'.cell? ⟨gb,ob+k*6+1,none⟩=some (.int .i64 ks)∧w'.cell? ⟨gb,ob+k*6+2,none⟩=some (.int .i64 km)∧w'.cell? ⟨gb,ob+k*6+3,none⟩=some (.int .i64 kt)∧w'.cell? ⟨gb,ob+k*6+4,none⟩=some (.bool kz)∧w'.cell? ⟨gb,ob+k*6+5,none⟩=some (.int .i64 kw)) (first | assumption | go_keep)
    (first | (go_at_call 194;refine(eqKind_same _ _ _ _ _ _ _).mono ?_;rintro e w1 ⟨rfl,k1⟩;have s1:=keepc12 k1 (by assumption)))
   all_goals
    go_wp2_with fail
    go_roundw
    case rel=>exact⟨k+1,by omega,by go_num,kr.drew.trans k1⟩
    case measure=>simp [intOf];omega
  ·obtain rfl:k=n:=by omega
   go_wp2_with fail
   go_ret
   exact⟨rfl,kr⟩
set_option maxRecDepth 100000 in
set_option maxHeartbeats 1000000 in
theorem eqRules_same (At Ak Bt Bk:Option Addr) (nt nk ct ck dt dk:Nat) (l:List Ter) (m:List Knd) (a b c d e:Int) (w:World) (ht:RdT w At nt l) (hk:RdK w Ak nk m) (gt:RdT w Bt nt l) (gk:RdK w Bk nk m) (hb1:nt≤1048576) (hb2:nk≤1048576) (hcb:∀ x ∈ l,x.cost.length≤1048576) :
  Calls Tryz.prog 72 #[rv (.slice At nt ct) (.slice Ak nk ck) a b c d e,rv (.slice Bt nt dt) (.slice Bk nk dk) a b c d e] w fun e' w'=>e'=.returned (.bool true)∧Kp w w':=by
 have KA:Kp w ((w.alloc (.cells #[.slice At nt ct,.slice Ak nk ck,.int .i64 a,.int .i64 b,.int .i64 c,.int .i64 d,.int .i64 e] 44)).alloc (.cells #[.slice Bt nt dt,.slice Bk nk dk,.int .i64 a,.int .i64 b,.int .i64 c,.int .i64 d,.int .i64 e] 44)):=((Kp.refl w).alloc _).alloc _
 have H1:=Lib.hid (ht.keep KA)
 have H2:=Lib.hid (gt.keep KA)
 have H3:=Lib.hid (hk.keep KA)
 have H4:=Lib.hid (gk.keep KA)
 have H5:=Lib.hid hcb
 have e1:(a != a)=false:=by simp
 have e2:(b != b)=false:=by simp
 have e3:(c != c)=false:=by simp
 have e4:(d != d)=false:=by simp
 have e5:(e != e)=false:=by simp
 clear ht hk gt gk hcb
 go_enter Tryz.func72,Tryz.ntmps72
 go_wp2_with fail
 refine(eqTerrainS_same _ _ _ _ _ l _ H1.out H2.out hb1 H5.out).mono ?_
 rintro x1 w1 ⟨rfl,k1⟩
 have p1:w1.cell? ⟨w.heap.size,1,none⟩=some (.slice Ak nk ck):=k1.cell (by simp [go_sem])
 have p2:w1.cell? ⟨w.heap.size,2,none⟩=some (.int .i64 a):=k1.cell (by simp [go_sem])
 have p3:w1.cell? ⟨w.heap.size,3,none⟩=some (.int .i64 b):=k1.cell (by simp [go_sem])
 have p4:w1.cell? ⟨w.heap.size,4,none⟩=some (.int .i64 c):=k1.cell (by simp [go_sem])
 have p5:w1.cell? ⟨w.heap.size,5,none⟩=some (.int .i64 d):=k1.cell (by simp [go_sem])
 have p6:w1.cell? ⟨w.heap.size,6,none⟩=some (.int .i64 e):=k1.cell (by simp [go_sem])
 have q1:w1.cell? ⟨w.heap.size+1,1,none⟩=some (.slice Bk nk dk):=k1.cell (by simp [go_sem])
 have q2:w1.cell? ⟨w.heap.size+1,2,none⟩=some (.int .i64 a):=k1.cell (by simp [go_sem])
 have q3:w1.cell? ⟨w.heap.size+1,3,none⟩=some (.int .i64 b):=k1.cell (by simp [go_sem])
 have q4:w1.cell? ⟨w.heap.size+1,4,none⟩=some (.int .i64 c):=k1.cell (by simp [go_sem])
 have q5:w1.cell? ⟨w.heap.size+1,5,none⟩=some (.int .i64 d):=k1.cell (by simp [go_sem])
 have q6:w1.cell? ⟨w.heap.size+1,6,none⟩=some (.int .i64 e):=k1.cell (by simp [go_sem])
 have K1:Kp w w1:=KA.trans k1
 have H3b:=Lib.hid (H3.out.keep k1)
 have H4b:=Lib.hid (H4.out.keep k1)
 clear k1 KA
 go_wp2_with fail
 refine(eqKindS_same _ _ _ _ _ m _ H3b.out H4b.out hb2).mono ?_
 rintro x2 w2 ⟨rfl,k2⟩
 replace p2:=k2.cell p2
 replace p3:=k2.cell p3
 replace p4:=k2.cell p4
 replace p5:=k2.cell p5
 replace p6:=k2.cell p6
 replace q2:=k2.cell q2
 replace q3:=k2.cell q3
 replace q4:=k2.cell q4
 replace q5:=k2.cell q5
 replace q6:=k2.cell q6
 have K2:Kp w w2:=K1.trans k2
 clear k2 K1 p1 q1
 go_wp2_with fail
 go_ret
 exact⟨rfl,K2⟩
end Go.Proofs.YtacgknllagdkoaaGreatDoor
/-
 A law that returns true and leaves all old memory as it was meets its row: the arguments and the named variables read as before. No program is looked into here.
-/
namespace Go.Proofs.YtacgknllagdkoaaGreatDoor
open Go.ChangeShapes Go.WideShapes Go.ChangeAt Go.RowKit Go.Joins
/-- Each type of the list can be read and is a row of the program's table. -/
def rowedAll (P:Program) (ts:List TypeId):Bool:=ts.all fun t=>P.readableRec t && decide (t<P.types.size)
theorem args_kept {H:Type} {enc:TypeId × Value→H} {P:Program} (hl:laidOutB P=true) {W W':World} (hb:Below W.heap.size W W') :
  ∀ (ts:List TypeId) (vs:List Value) (ds:List (DataW H)) (ps:List MemPlace),rowedAll P ts=true→(∀ x ∈ ps,x.block<W.heap.size) →
   DataW.TrodAll enc P W 0 (fun _=>true) true ts vs ds ps→DataW.TrodAll enc P W' 0 (fun b=>decide (b<W.heap.size)) true ts vs ds ps
 | [],[],[],_,_,_,h=>h
 | t :: ts,v :: vs,d :: ds,ps,hr,hlt,h=>by
  obtain⟨p,q,h1,h2,rfl⟩:=h
  simp only [rowedAll,List.all_cons,Bool.and_eq_true] at hr
  exact⟨p,q,Below.trod hl hr.1.1 (of_decide_eq_true hr.1.2) h1 hb (fun x hx=>hlt x (List.mem_append_left _ hx)),
   args_kept hl hb ts vs ds q (by simpa [rowedAll] using hr.2) (fun x hx=>hlt x (List.mem_append_right _ hx)) h2,rfl⟩
 | [],[],_ :: _,_,_,_,h=>h.elim
 | [],_ :: _,_,_,_,_,h=>h.elim
 | _ :: _,[],_,_,_,_,h=>h.elim
 | _ :: _,_ :: _,[],_,_,_,h=>h.elim
theorem law_post {H:Type} {enc:TypeId × Value→H} {P:Program} {f:Func} {s:ChangeSpec} {apart fresh handsOn:Bool} {W W':World} {args:Array Value} {ds gs:List (DataW H)} {before:List MemPlace} {tb:TypeId}
  (hW:DataW.Whole enc P f.params.toList s.vars apart W args.toList ds gs before)
  (hl:laidOutB P=true) (hr:rowedAll P f.params.toList=true) (hv:varsRowed P s.vars=true)
  (hres:f.resultTypes=#[tb]) (htb:P.underlying tb=some .bool)
  (hfn:s.fn H (ds++gs)={ results:=[.lit (.bool true)],args:=ds,vars:=gs }) (hb:Below W.heap.size W W') :
  s.post enc P f apart fresh handsOn false W args (.bool true) W':=by
 have hlt:=hW.lt
 have hW0:=hW
 obtain⟨p,q,hA,hV,rfl,_,_⟩:=hW
 refine⟨ds,gs,p++q,[],p,q,hW0,?_,?_,?_,hb.frame _,fun h=>by cases h⟩
 ·rw [hfn,hres]
  exact trodAll_mk1 (shut_bool htb true)
 ·rw [hfn]
  exact args_kept hl hb _ _ _ _ hr (fun x hx=>hlt x (List.mem_append_left _ hx)) hA
 ·rw [hfn]
  exact Below.trodVars hl hb hv hV
theorem own:ownKnob Tryz.prog.godebug=none:=by kernel_rfl
theorem laidOut:laidOutB Tryz.prog=true:=by kernel_rfl
end Go.Proofs.YtacgknllagdkoaaGreatDoor
/-
 An argument that is a slice of integers reads as a list.
-/
namespace Go.Proofs.YtacgknllagdkoaaGreatDoor
open Go.ChangeShapes Go.WideShapes Go.ChangeAt Go.RowKit Go.Joins
theorem cellsInt1:Tryz.prog.cellsOf 3=1:=by kernel_rfl
set_option maxRecDepth 100000 in
/-- An argument that is a slice of integers: the list, its length and its numbers within Go's own bounds. -/
theorem rdB_of_trod {H:Type} {enc:TypeId × Value→H} {W:World} {v:Value} {n:Nat} {y:DataW H × List MemPlace}
  (hf:DataW.trod enc Tryz.prog W 0 (fun _=>true) true n 26 [v]=some y):∃ l,RdI W v l∧l.length≤9223372036854775807∧∀ x ∈ l,-9223372036854775808≤x∧x≤9223372036854775807:=by
 rcases open_ints Tryz.underlying26 Tryz.underlying3 cellsInt1 hf with ⟨hcs,hx⟩ | ⟨a,len,cap,zs,hcs,_,hl,hm,hz,hx,hcell,hwz⟩
 ·simp only [List.cons.injEq,and_true] at hcs
  obtain rfl:=hcs
  exact⟨[],⟨none,0,rfl,fun h0=>by simp at h0⟩,by simp,fun x hx=>by cases hx⟩
 ·simp only [List.cons.injEq,and_true] at hcs
  obtain rfl:=hcs
  have hzl:len≤zs.length:=by rw [hz];simpa using hl
  have hlen:(zs.take len).length=len:=by rw [List.length_take];omega
  refine⟨zs.take len,⟨some a,cap,by rw [hlen],fun h0=>?_⟩,by rw [hlen];unfold maxLen at hm;omega,fun x hx=>bounds_i64 (hwz x (List.mem_of_mem_take hx))⟩
  obtain⟨b,off,rfl,hc⟩:=ints_at hcell (by omega)
  refine⟨b,off,rfl,fun i x hi=>?_⟩
  rw [List.getElem?_take] at hi
  split at hi
  ·have hil:i<zs.length:=(List.getElem?_eq_some_iff.1 hi).1
   rw [hc i hil]
   simp [List.getD,hi]
  ·cases hi
end Go.Proofs.YtacgknllagdkoaaGreatDoor
/-
 The laws' own functions on maps: the size, the copy (in memory of its own), the comparison of two maps that read as the same lists. Nothing that was there is changed.
-/
namespace Go.Proofs.YtacgknllagdkoaaGreatDoor
open Go.RowKit
/-- Three slices that the call owns, in blocks of their own from a number on. -/
structure Own3 (w:World) (base:Nat) (t r d:Value) (lt lr ld:List Int):Prop where
 ot:OwnI w base t lt
 or:OwnI w base r lr
 od:OwnI w base d ld
 tr:∀ g,t.ownBlock=some g→r.ownBlock ≠ some g
 td:∀ g,t.ownBlock=some g→d.ownBlock ≠ some g
 rd:∀ g,r.ownBlock=some g→d.ownBlock ≠ some g
theorem Own3.keep {w w':World} {base:Nat} {t r d:Value} {lt lr ld:List Int} (h:Own3 w base t r d lt lr ld) (k:Kp w w'):Own3 w' base t r d lt lr ld :=
 ⟨h.ot.keep k,h.or.keep k,h.od.keep k,h.tr,h.td,h.rd⟩
abbrev Live5 (w:World) (b:Nat) (v0 v1 v2 v3 v4:Value):Prop :=
 (w.cell? ⟨b,0,none⟩=some v0∧w.frozen? ⟨b,0,none⟩=false)∧(w.cell? ⟨b,1,none⟩=some v1∧w.frozen? ⟨b,1,none⟩=false)∧(w.cell? ⟨b,2,none⟩=some v2∧w.frozen? ⟨b,2,none⟩=false)∧(w.cell? ⟨b,3,none⟩=some v3∧w.frozen? ⟨b,3,none⟩=false)∧(w.cell? ⟨b,4,none⟩=some v4∧w.frozen? ⟨b,4,none⟩=false)
theorem live5_keep {w w':World} {b:Nat} {v0 v1 v2 v3 v4:Value} (k:Kp w w') (h:Live5 w b v0 v1 v2 v3 v4):Live5 w' b v0 v1 v2 v3 v4 :=
 ⟨k.liv h.1,k.liv h.2.1,k.liv h.2.2.1,k.liv h.2.2.2.1,k.liv h.2.2.2.2⟩
theorem eqMap_same (W H:Int) (ta ra da tb rb db:Value) (lt lr ld:List Int) (w:World) (ha:Lists w ta ra da lt lr ld) (hb:Lists w tb rb db lt lr ld) :
  Calls Tryz.prog 73 #[mp W H ta ra da,mp W H tb rb db] w fun e w'=>e=.returned (.bool true)∧Kp w w':=by
 have hne:∀ n:Int,(n != n)=false:=fun n=>by simp
 have HA:=Lib.hid (ha.keep (((Kp.refl w).alloc (.cells #[.int .i64 W,.int .i64 H,ta,ra,da] 45)).alloc (.cells #[.int .i64 W,.int .i64 H,tb,rb,db] 45)))
 have HB:=Lib.hid (hb.keep (((Kp.refl w).alloc (.cells #[.int .i64 W,.int .i64 H,ta,ra,da] 45)).alloc (.cells #[.int .i64 W,.int .i64 H,tb,rb,db] 45)))
 clear ha hb
 go_enter Tryz.func73,Tryz.ntmps73
 go_wp2_with fail
 refine(eqIntS_same _ _ lt _ HA.out.rt HB.out.rt HA.out.bt).mono ?_
 rintro e1 w1 ⟨rfl,k1⟩
 have p3:w1.cell? ⟨w.heap.size,3,none⟩=some ra:=k1.cell (by simp [go_sem])
 have p4:w1.cell? ⟨w.heap.size,4,none⟩=some da:=k1.cell (by simp [go_sem])
 have q3:w1.cell? ⟨w.heap.size+1,3,none⟩=some rb:=k1.cell (by simp [go_sem])
 have q4:w1.cell? ⟨w.heap.size+1,4,none⟩=some db:=k1.cell (by simp [go_sem])
 have K1:Kp w w1:=(((Kp.refl w).alloc _).alloc _).trans k1
 have HA1:=Lib.hid (HA.out.keep k1)
 have HB1:=Lib.hid (HB.out.keep k1)
 clear HA HB k1
 go_wp2_with fail
 refine(eqIntS_same _ _ lr _ HA1.out.rr HB1.out.rr HA1.out.br).mono ?_
 rintro e2 w2 ⟨rfl,k2⟩
 have r4:=k2.cell p4
 have s4:=k2.cell q4
 clear p3 p4 q3 q4
 go_wp2_with fail
 refine(eqIntS_same _ _ ld _ (HA1.out.keep k2).rd (HB1.out.keep k2).rd HA1.out.bd).mono ?_
 rintro e3 w3 ⟨rfl,k3⟩
 go_wp2_with fail
 go_ret
 exact⟨rfl,(K1.trans k2).trans k3⟩
end Go.Proofs.YtacgknllagdkoaaGreatDoor
/-
 The laws' copy of a map: the same numbers and lists, in memory of its own. Nothing that was there is changed.
-/
namespace Go.Proofs.YtacgknllagdkoaaGreatDoor
open Go.RowKit
def ToMapPost (W H:Int) (lt lr ld:List Int) (w:World) (e:Ending) (w':World):Prop :=
 ∃ t r d,e=.returned (mp W H t r d)∧Own3 w' w.heap.size t r d lt lr ld∧Kp w w'
theorem toIntS_sl (v:Value) (l:List Int) (w:World) (h:RdI w v l) (hl:l.length≤1048576) :
  Calls Tryz.prog 51 #[v] w fun e w'=>∃ A c,e=.returned (.slice A l.length c)∧OwnI w' w.heap.size (.slice A l.length c) l∧Kp w w' :=
 (toIntS_any v l w h hl).mono fun e w' ⟨v',he,ho,hk⟩=>by
  obtain⟨A,c,rfl⟩:=ho.slice
  exact⟨A,c,he,ho,hk⟩
set_option maxHeartbeats 2000000 in
theorem toMap_any (W H:Int) (t r d:Value) (lt lr ld:List Int) (w:World) (hL:Lists w t r d lt lr ld) :
  Calls Tryz.prog 66 #[mp W H t r d] w (ToMapPost W H lt lr ld w):=by
 have HL:=Lib.hid hL
 obtain⟨At,ct,rfl,_⟩:=hL.rt
 obtain⟨Ar,cr,rfl,_⟩:=hL.rr
 obtain⟨Ad,cd,rfl,_⟩:=hL.rd
 have C:=Lib.hid toIntS_sl
 obtain⟨nt,hnt⟩:∃ n,lt.length=n:=⟨_,rfl⟩
 obtain⟨nr,hnr⟩:∃ n,lr.length=n:=⟨_,rfl⟩
 obtain⟨nd,hnd⟩:∃ n,ld.length=n:=⟨_,rfl⟩
 have HNt:=Lib.hid hnt
 have HNr:=Lib.hid hnr
 have HNd:=Lib.hid hnd
 rw [hnt,hnr,hnd]
 have CT:Hid (∀ w,RdI w (.slice At nt ct) lt→Calls Tryz.prog 51 #[.slice At nt ct] w fun e w'=>∃ A c,e=.returned (.slice A nt c)∧OwnI w' w.heap.size (.slice A nt c) lt∧Kp w w'):=Lib.hid fun w h=>by
  have:=toIntS_sl _ lt w h hL.bt
  rw [hnt] at this
  exact this
 have CR:Hid (∀ w,RdI w (.slice Ar nr cr) lr→Calls Tryz.prog 51 #[.slice Ar nr cr] w fun e w'=>∃ A c,e=.returned (.slice A nr c)∧OwnI w' w.heap.size (.slice A nr c) lr∧Kp w w'):=Lib.hid fun w h=>by
  have:=toIntS_sl _ lr w h hL.br
  rw [hnr] at this
  exact this
 have CD:Hid (∀ w,RdI w (.slice Ad nd cd) ld→Calls Tryz.prog 51 #[.slice Ad nd cd] w fun e w'=>∃ A c,e=.returned (.slice A nd c)∧OwnI w' w.heap.size (.slice A nd c) ld∧Kp w w'):=Lib.hid fun w h=>by
  have:=toIntS_sl _ ld w h hL.bd
  rw [hnd] at this
  exact this
 rw [hnt,hnr,hnd] at HL
 clear hL hnt hnr hnd C
 go_enter Tryz.func66,Tryz.ntmps66
 go_wp2_with fail
 have k0:Kp w (((w.alloc (.cells #[.int .i64 W,.int .i64 H,.slice At nt ct,.slice Ar nr cr,.slice Ad nd cd] 28)).alloc (.cells #[.int .i64 0,.int .i64 0,.slice none 0 0,.slice none 0 0,.slice none 0 0] 45)).alloc (.cells #[.int .i64 W,.int .i64 H,.slice none 0 0,.slice none 0 0,.slice none 0 0] 45)):=(((Kp.refl w).alloc _).alloc _).alloc _
 refine(CT.out _ (HL.out.keep k0).rt).mono ?_
 rintro e1 w1 ⟨A1,c1,rfl,o1,k1⟩
 have a3:w1.cell? ⟨w.heap.size,3,none⟩=some (.slice Ar nr cr):=k1.cell (by simp [go_sem])
 have a4:w1.cell? ⟨w.heap.size,4,none⟩=some (.slice Ad nd cd):=k1.cell (by simp [go_sem])
 have L1:Live5 w1 (w.heap.size+1) (.int .i64 0) (.int .i64 0) (.slice none 0 0) (.slice none 0 0) (.slice none 0 0):=live5_keep k1 ⟨by simp [go_sem],by simp [go_sem],by simp [go_sem],by simp [go_sem],by simp [go_sem]⟩
 have M1:Live5 w1 (w.heap.size+1+1) (.int .i64 W) (.int .i64 H) (.slice none 0 0) (.slice none 0 0) (.slice none 0 0):=live5_keep k1 ⟨by simp [go_sem],by simp [go_sem],by simp [go_sem],by simp [go_sem],by simp [go_sem]⟩
 have K1:Kp w w1:=k0.trans k1
 have z1:w.heap.size+3≤w1.heap.size:=by have:=k1.size;simp at this;omega
 have O1:=Lib.hid (o1.base (b:=w.heap.size+3) (by simp <;> omega))
 clear k0 k1 o1
 go_wp2_with fail
 have K1':Kp w (w1.setCell ⟨w.heap.size+1+1,2,none⟩ (.slice A1 nt c1)):=K1.setCell (by simp <;> omega) _
 refine(CR.out _ (HL.out.keep K1').rr).mono ?_
 rintro e2 w2 ⟨A2,c2,rfl,o2,k2⟩
 have b4:w2.cell? ⟨w.heap.size,4,none⟩=some (.slice Ad nd cd):=k2.cell (by simp [go_sem, *])
 have L2:Live5 w2 (w.heap.size+1) (.int .i64 0) (.int .i64 0) (.slice none 0 0) (.slice none 0 0) (.slice none 0 0):=live5_keep k2 ⟨by simp [go_sem, *],by simp [go_sem, *],by simp [go_sem, *],by simp [go_sem, *],by simp [go_sem, *]⟩
 have M2:Live5 w2 (w.heap.size+1+1) (.int .i64 W) (.int .i64 H) (.slice A1 nt c1) (.slice none 0 0) (.slice none 0 0):=live5_keep k2 ⟨by simp [go_sem, *],by simp [go_sem, *],by simp [go_sem, *],by simp [go_sem, *],by simp [go_sem, *]⟩
 have K2:Kp w w2:=K1'.trans k2
 have z2:w.heap.size+3≤w2.heap.size:=by have:=k2.size;simp at this;omega
 have O1b:=Lib.hid ((O1.out.far (O1.out.not (g:=w.heap.size+1+1) (by omega)) (.slice A1 nt c1) (j:=2)).keep k2)
 have D12:Hid (∀ g,(Value.slice A1 nt c1).ownBlock=some g→(Value.slice A2 nr c2).ownBlock ≠ some g):=Lib.hid fun g hg hg'=>by
  have h1:=(World.ownsRow.lt O1.out g hg).2
  have h2:=(World.ownsRow.lt o2 g hg').1
  simp at h2
  omega
 have O2:=Lib.hid (o2.base (b:=w.heap.size+3) (by simp <;> omega))
 clear K1' k2 o2 a3 a4 L1 M1 K1 O1
 go_wp2_with fail
 have K2':Kp w (w2.setCell ⟨w.heap.size+1+1,3,none⟩ (.slice A2 nr c2)):=K2.setCell (by simp <;> omega) _
 refine(CD.out _ (HL.out.keep K2').rd).mono ?_
 rintro e3 w3 ⟨A3,c3,rfl,o3,k3⟩
 have L3:Live5 w3 (w.heap.size+1) (.int .i64 0) (.int .i64 0) (.slice none 0 0) (.slice none 0 0) (.slice none 0 0):=live5_keep k3 ⟨by simp [go_sem, *],by simp [go_sem, *],by simp [go_sem, *],by simp [go_sem, *],by simp [go_sem, *]⟩
 have M3:Live5 w3 (w.heap.size+1+1) (.int .i64 W) (.int .i64 H) (.slice A1 nt c1) (.slice A2 nr c2) (.slice none 0 0):=live5_keep k3 ⟨by simp [go_sem, *],by simp [go_sem, *],by simp [go_sem, *],by simp [go_sem, *],by simp [go_sem, *]⟩
 have K3:Kp w w3:=K2'.trans k3
 have O1c:=Lib.hid ((O1b.out.far (O1b.out.not (g:=w.heap.size+1+1) (by omega)) (.slice A2 nr c2) (j:=3)).keep k3)
 have O2b:=Lib.hid ((O2.out.far (O2.out.not (g:=w.heap.size+1+1) (by omega)) (.slice A2 nr c2) (j:=3)).keep k3)
 have D13:Hid (∀ g,(Value.slice A1 nt c1).ownBlock=some g→(Value.slice A3 nd c3).ownBlock ≠ some g):=Lib.hid fun g hg hg'=>by
  have h1:=(World.ownsRow.lt O1b.out g hg).2
  have h2:=(World.ownsRow.lt o3 g hg').1
  simp at h2
  omega
 have D23:Hid (∀ g,(Value.slice A2 nr c2).ownBlock=some g→(Value.slice A3 nd c3).ownBlock ≠ some g):=Lib.hid fun g hg hg'=>by
  have h1:=(World.ownsRow.lt O2.out g hg).2
  have h2:=(World.ownsRow.lt o3 g hg').1
  simp at h2
  omega
 have O3:=Lib.hid (o3.base (b:=w.heap.size+3) (by simp <;> omega))
 clear K2' k3 o3 b4 L2 M2 K2 O1b O2
 go_wp2_with fail
 have n1:∀ g,g<w.heap.size+3→(Value.slice A1 nt c1).ownBlock ≠ some g:=fun g hg=>O1c.out.not (by omega)
 have n2:∀ g,g<w.heap.size+3→(Value.slice A2 nr c2).ownBlock ≠ some g:=fun g hg=>O2b.out.not (by omega)
 have n3:∀ g,g<w.heap.size+3→(Value.slice A3 nd c3).ownBlock ≠ some g:=fun g hg=>O3.out.not (by omega)
 refine bodyPost_ret (v:=mp W H (.slice A1 nt c1) (.slice A2 nr c2) (.slice A3 nd c3)) (by simp [results,Tryz.results66,go_sem, *]) rfl ⟨_,_,_,rfl,⟨?_,?_,?_,D12.out,D13.out,D23.out⟩,?_⟩
 ·exact((((((O1c.out.far (n1 _ (by omega)) _).far (n1 _ (by omega)) _).far (n1 _ (by omega)) _).far (n1 _ (by omega)) _).far (n1 _ (by omega)) _).far (n1 _ (by omega)) _).base (by omega)
 ·exact((((((O2b.out.far (n2 _ (by omega)) _).far (n2 _ (by omega)) _).far (n2 _ (by omega)) _).far (n2 _ (by omega)) _).far (n2 _ (by omega)) _).far (n2 _ (by omega)) _).base (by omega)
 ·exact((((((O3.out.far (n3 _ (by omega)) _).far (n3 _ (by omega)) _).far (n3 _ (by omega)) _).far (n3 _ (by omega)) _).far (n3 _ (by omega)) _).far (n3 _ (by omega)) _).base (by omega)
 ·exact(((((K3.setCell (by simp <;> omega) _).setCell (by simp <;> omega) _).setCell (by simp <;> omega) _).setCell (by simp <;> omega) _).setCell (by simp <;> omega) _).setCell (by simp <;> omega) _
end Go.Proofs.YtacgknllagdkoaaGreatDoor
