/-
 Ways of supply for a kind, paths of supply for a unit, and whether it is in supply, as the program tells them. In memory of its own; nothing that was there is changed. The named variables hold what the program's text lays.
-/
import Derived.Deep.Cut
import Derived.Deep.RegionHeld3
import Derived.Test.YtacgknllagdkoaaGreatDoorSuG
import Derived.Test.YtacgknllagdkoaaGreatDoorSuP
import Derived.Test.YtacgknllagdkoaaGreatDoorMid
import Derived.Test.YtacgknllagdkoaaGreatDoorQa
import Derived.Test.YtacgknllagdkoaaGreatDoorQa
namespace Go.Proofs.YtacgknllagdkoaaGreatDoor
open Go.RowKit
theorem rulOk_sup {l:List Ter} {m:List Knd} {a b c d e:Int} (h:rulOk ⟨l,m,a,b,c,d,e⟩=true):0≤d∧d≤20:=by
 simp only [rulOk,limB,spB,Bool.and_eq_true,decide_eq_true_iff] at h
 omega
set_option maxRecDepth 100000 in
set_option maxHeartbeats 4000000 in
theorem waysClo_any (At Ak:Option Addr) (nt nk ct ck:Nat) (l:List Ter) (m:List Knd) (a b c d e W H:Int) (x r y:Value) (lt lr ld:List Int) (T Z:Int) (u:Value) (us:List Uni) (sd:Int) (q:Value) (k j:Nat) (Bb B Bk:Nat) (bv:Value) (bl:List Int) (w:World) (ht:Tab w) (hB:BrdAt w At Ak nt nk l m x r y lt lr ld) (hS:StaAt w u us) (hok:brdOk ⟨l,m,a,b,c,d,e⟩ W H lt lr ld=true) (hst:staOk ⟨l,m,a,b,c,d,e⟩ W H lt T Z us=true) (hk:k<m.length) (hj:j<lt.length) (hsd:sd=0∨sd=1)
  (hb:w.cell? ⟨Bb,0,none⟩=some bv) (hB1:World.rangeAt w B 0 [.slice At nt ct,.slice Ak nk ck,.int .i64 a,.int .i64 b,.int .i64 c,.int .i64 d,.int .i64 e,.int .i64 W,.int .i64 H,x,r,y,.int .i64 T,.int .i64 Z,u,.int .i64 sd,q]) (hk1:w.cell? ⟨Bk,0,none⟩=some (.int .i64 (k:Int))) (hbl:RdI w bv bl) (hl:bl.length≤1048576) :
  Calls Tryz.prog 205 #[.int .i64 (j:Int),.pointer (some ⟨Bb,0,none⟩),.pointer (some ⟨B,0,none⟩),.pointer (some ⟨Bk,0,none⟩)] w fun e' w'=>e'=.returned (.bool (!hasB bl (j:Int) && pasB l m lt lr ld W us sd k j))∧Kp w w':=by
 have CP:=Lib.hid (isPassable_any At Ak nt nk ct ck l m a b c d e W H x r y lt lr ld T Z u us sd q k j w ht hB hS hok hst hk hj hsd)
 have CC:=Lib.hid (contains_any bv bl (j:Int) w hbl hl)
 have I17:Hid ((Tryz.prog.info? 147).map (·.size)=some 17):=Lib.hid (by kernel_rfl)
 have s0:=hB1
 clear hB1
 generalize pasB l m lt lr ld W us sd k j=P at CP ⊢
 generalize hasB bl (j:Int)=C at CC ⊢
 clear ht hB hS hok hst hk hj hsd hbl hl
 cases C
 ·go_enter Tryz.func205,Tryz.ntmps205
  go_wp2_with fail
  refine CC.out.mono ?_
  rintro e1 w1 ⟨rfl,rfl⟩
  go_wp2_with (first | ((with_reducible refine load_m s0 Tryz.underlying147 ?_ ?_ ?_ ?_ ?_);exact I17.out;rfl;rfl;rfl))
  refine CP.out.mono ?_
  rintro e2 w2 ⟨rfl,k2⟩
  go_wp2_with fail
  go_ret
  exact⟨ret_bool (by simp),k2⟩
 ·go_enter Tryz.func205,Tryz.ntmps205
  go_wp2_with fail
  refine CC.out.mono ?_
  rintro e1 w1 ⟨rfl,rfl⟩
  go_wp2_with fail
  go_ret
  exact⟨ret_bool (by simp),Kp.refl _⟩
set_option maxRecDepth 100000 in
set_option maxHeartbeats 4000000 in
theorem waysFor_any (At Ak:Option Addr) (nt nk ct ck:Nat) (l:List Ter) (m:List Knd) (a b c d e W H:Int) (x r y:Value) (lt lr ld:List Int) (T Z:Int) (u:Value) (us:List Uni) (sd:Int) (Aq:Option Addr) (nq cq:Nat) (src:List Nat) (k:Nat) (Ab:Option Addr) (nb cb:Nat) (bl:List Int) (w:World) (ht:Tab w) (hB:BrdAt w At Ak nt nk l m x r y lt lr ld) (hS:StaAt w u us) (hok:brdOk ⟨l,m,a,b,c,d,e⟩ W H lt lr ld=true) (hst:staOk ⟨l,m,a,b,c,d,e⟩ W H lt T Z us=true) (hk:k<m.length) (hq:RdI w (.slice Aq nq cq) (ints src)) (hs:∀ k ∈ src,k<lt.length) (hsl:src.length≤100) (hsd:sd=0∨sd=1) (hbl:RdI w (.slice Ab nb cb) bl) (hl:bl.length≤1048576) :
  Calls Tryz.prog 169 #[.agg #[.slice At nt ct,.slice Ak nk ck,.int .i64 a,.int .i64 b,.int .i64 c,.int .i64 d,.int .i64 e,.int .i64 W,.int .i64 H,x,r,y,.int .i64 T,.int .i64 Z,u,.int .i64 sd,.slice Aq nq cq],.int .i64 (k:Int),.slice Ab nb cb] w fun e' w'=>∃ g,e'=.returned (.slice (some ⟨g,0,none⟩) lt.length lt.length)∧w.heap.size≤g∧(∀ j,j<lt.length→∃ z,w'.cell? ⟨g,j,none⟩=some z∧OwnI w' w.heap.size z (ints (wayN (fun j=>!hasB bl (j:Int) && pasB l m lt lr ld W us sd k j) W H src lt.length j)))∧Kp w w':=by
 obtain⟨p1,p2,p3,p4⟩:=mapOk_side (brdOk_map hok)
 have hlen:=mapOk_len (brdOk_map hok)
 have KB:Kp w (((w.alloc (.cells #[.slice At nt ct,.slice Ak nk ck,.int .i64 a,.int .i64 b,.int .i64 c,.int .i64 d,.int .i64 e,.int .i64 W,.int .i64 H,x,r,y,.int .i64 T,.int .i64 Z,u,.int .i64 sd,.slice Aq nq cq] 147)).alloc (.cells #[.int .i64 (k:Int)] 3)).alloc (.cells #[.slice Ab nb cb] 26)):=(((Kp.refl w).alloc _).alloc _).alloc _
 have s0:ce17 (((w.alloc (.cells #[.slice At nt ct,.slice Ak nk ck,.int .i64 a,.int .i64 b,.int .i64 c,.int .i64 d,.int .i64 e,.int .i64 W,.int .i64 H,x,r,y,.int .i64 T,.int .i64 Z,u,.int .i64 sd,.slice Aq nq cq] 147)).alloc (.cells #[.int .i64 (k:Int)] 3)).alloc (.cells #[.slice Ab nb cb] 26)) (w.heap.size) (.slice At nt ct) (.slice Ak nk ck) (.int .i64 a) (.int .i64 b) (.int .i64 c) (.int .i64 d) (.int .i64 e) (.int .i64 W) (.int .i64 H) (x) (r) (y) (.int .i64 T) (.int .i64 Z) (u) (.int .i64 sd) (.slice Aq nq cq):=⟨by simp [go_sem],by simp [go_sem],by simp [go_sem],by simp [go_sem],by simp [go_sem],by simp [go_sem],by simp [go_sem],by simp [go_sem],by simp [go_sem],by simp [go_sem],by simp [go_sem],by simp [go_sem],by simp [go_sem],by simp [go_sem],by simp [go_sem],by simp [go_sem],by simp [go_sem]⟩
 have hkc:(((w.alloc (.cells #[.slice At nt ct,.slice Ak nk ck,.int .i64 a,.int .i64 b,.int .i64 c,.int .i64 d,.int .i64 e,.int .i64 W,.int .i64 H,x,r,y,.int .i64 T,.int .i64 Z,u,.int .i64 sd,.slice Aq nq cq] 147)).alloc (.cells #[.int .i64 (k:Int)] 3)).alloc (.cells #[.slice Ab nb cb] 26)).cell? ⟨w.heap.size+1,0,none⟩=some (.int .i64 (k:Int)):=by simp [go_sem]
 have hbc:(((w.alloc (.cells #[.slice At nt ct,.slice Ak nk ck,.int .i64 a,.int .i64 b,.int .i64 c,.int .i64 d,.int .i64 e,.int .i64 W,.int .i64 H,x,r,y,.int .i64 T,.int .i64 Z,u,.int .i64 sd,.slice Aq nq cq] 147)).alloc (.cells #[.int .i64 (k:Int)] 3)).alloc (.cells #[.slice Ab nb cb] 26)).cell? ⟨w.heap.size+1+1,0,none⟩=some (.slice Ab nb cb):=by simp [go_sem]
 have hBX:World.rangeAt (((w.alloc (.cells #[.slice At nt ct,.slice Ak nk ck,.int .i64 a,.int .i64 b,.int .i64 c,.int .i64 d,.int .i64 e,.int .i64 W,.int .i64 H,x,r,y,.int .i64 T,.int .i64 Z,u,.int .i64 sd,.slice Aq nq cq] 147)).alloc (.cells #[.int .i64 (k:Int)] 3)).alloc (.cells #[.slice Ab nb cb] 26)) w.heap.size 0 [.slice At nt ct,.slice Ak nk ck,.int .i64 a,.int .i64 b,.int .i64 c,.int .i64 d,.int .i64 e,.int .i64 W,.int .i64 H,x,r,y,.int .i64 T,.int .i64 Z,u,.int .i64 sd,.slice Aq nq cq]:=range_keep (range_fresh w [.slice At nt ct,.slice Ak nk ck,.int .i64 a,.int .i64 b,.int .i64 c,.int .i64 d,.int .i64 e,.int .i64 W,.int .i64 H,x,r,y,.int .i64 T,.int .i64 Z,u,.int .i64 sd,.slice Aq nq cq] 147) (((Kp.refl _).alloc _).alloc _)
 have HFW:=Lib.hid (firstWays_any #[.pointer (some ⟨w.heap.size+1+1,0,none⟩),.pointer (some ⟨w.heap.size,0,none⟩),.pointer (some ⟨w.heap.size+1,0,none⟩)] (fun j=>!hasB bl (j:Int) && pasB l m lt lr ld W us sd k j) W H x r y lt.length src (.slice Aq nq cq) (((w.alloc (.cells #[.slice At nt ct,.slice Ak nk ck,.int .i64 a,.int .i64 b,.int .i64 c,.int .i64 d,.int .i64 e,.int .i64 W,.int .i64 H,x,r,y,.int .i64 T,.int .i64 Z,u,.int .i64 sd,.slice Aq nq cq] 147)).alloc (.cells #[.int .i64 (k:Int)] 3)).alloc (.cells #[.slice Ab nb cb] 26)) (((w.alloc (.cells #[.slice At nt ct,.slice Ak nk ck,.int .i64 a,.int .i64 b,.int .i64 c,.int .i64 d,.int .i64 e,.int .i64 W,.int .i64 H,x,r,y,.int .i64 T,.int .i64 Z,u,.int .i64 sd,.slice Aq nq cq] 147)).alloc (.cells #[.int .i64 (k:Int)] 3)).alloc (.cells #[.slice Ab nb cb] 26)) p1 p2 p3 p4 hlen (ht.keep KB) (fun j hj w' k'=>waysClo_any At Ak nt nk ct ck l m a b c d e W H x r y lt lr ld T Z u us sd (.slice Aq nq cq) k j (w.heap.size+1+1) w.heap.size (w.heap.size+1) (.slice Ab nb cb) bl w' (ht.keep (KB.trans k')) (hB.keep (KB.trans k')) (hS.keep (KB.trans k')) hok hst hk hj hsd (k'.cell hbc) (range_keep hBX k') (k'.cell hkc) (hbl.keep (KB.trans k')) hl) (Kp.refl _) (hq.keep KB) hs hsl)
 have hzB:(((w.alloc (.cells #[.slice At nt ct,.slice Ak nk ck,.int .i64 a,.int .i64 b,.int .i64 c,.int .i64 d,.int .i64 e,.int .i64 W,.int .i64 H,x,r,y,.int .i64 T,.int .i64 Z,u,.int .i64 sd,.slice Aq nq cq] 147)).alloc (.cells #[.int .i64 (k:Int)] 3)).alloc (.cells #[.slice Ab nb cb] 26)).heap.size=w.heap.size+3:=by simp
 clear ht hB hS hok hst hk hq hs hsl hsd hbl hl hBX hbc hkc
 go_enter Tryz.func169,Tryz.ntmps169
 obtain⟨z0,z1,z2,z3,z4,z5,z6,z7,z8,z9,z10,z11,z12,z13,z14,z15,z16⟩:=s0
 go_wp2_with fail
 refine HFW.out.mono ?_
 rintro e1 w1 ⟨g,rfl,hg,hr,k1⟩
 have HR:=Lib.hid hr
 clear hr
 go_wp2_with fail
 go_ret
 refine⟨g,rfl,by omega,fun j hj=>?_,KB.trans k1⟩
 obtain⟨z,y1,y2⟩:=HR.out j hj
 exact⟨z,y1,y2.base (by omega)⟩
set_option maxRecDepth 100000 in
set_option maxHeartbeats 4000000 in
theorem pathTo_any (At Ak:Option Addr) (nt nk ct ck:Nat) (l:List Ter) (m:List Knd) (a b c d e W H:Int) (x r y:Value) (lt lr ld:List Int) (T Z:Int) (u:Value) (us:List Uni) (sd:Int) (Aq:Option Addr) (nq cq:Nat) (src:List Nat) (k:Nat) (us_ ua ut:Int) (Ab:Option Addr) (nb cb:Nat) (bl:List Int) (w:World) (ht:Tab w) (hB:BrdAt w At Ak nt nk l m x r y lt lr ld) (hS:StaAt w u us) (hok:brdOk ⟨l,m,a,b,c,d,e⟩ W H lt lr ld=true) (hst:staOk ⟨l,m,a,b,c,d,e⟩ W H lt T Z us=true) (hk:k<m.length) (hq:RdI w (.slice Aq nq cq) (ints src)) (hs:∀ k ∈ src,k<lt.length) (hsl:src.length≤100) (hsd:sd=0∨sd=1) (hbl:RdI w (.slice Ab nb cb) bl) (hl:bl.length≤1048576) (hua:ua=-1∨(0≤ua∧ua<lt.length)) :
  Calls Tryz.prog 117 #[.agg #[.slice At nt ct,.slice Ak nk ck,.int .i64 a,.int .i64 b,.int .i64 c,.int .i64 d,.int .i64 e,.int .i64 W,.int .i64 H,x,r,y,.int .i64 T,.int .i64 Z,u,.int .i64 sd,.slice Aq nq cq],.agg #[.int .i64 us_,.int .i64 (k:Int),.int .i64 ua,.int .i64 ut],.slice Ab nb cb] w (ListPostI (decide (ua ≠ -1) && insB (wayN (fun j=>!hasB bl (j:Int) && pasB l m lt lr ld W us sd k j) W H src lt.length ua.toNat).length d) (ints (wayN (fun j=>!hasB bl (j:Int) && pasB l m lt lr ld W us sd k j) W H src lt.length ua.toNat)) w):=by
 obtain⟨p1,p2,p3,p4⟩:=mapOk_side (brdOk_map hok)
 have hlen:=mapOk_len (brdOk_map hok)
 have hA:=area_bd p1 p2 p3 p4
 have hd:=rulOk_sup (brdOk_rul hok)
 have HWF:=Lib.hid (fun (w:World) ht hB hS hq hbl=>waysFor_any At Ak nt nk ct ck l m a b c d e W H x r y lt lr ld T Z u us sd Aq nq cq src k Ab nb cb bl w ht hB hS hok hst hk hq hs hsl hsd hbl hl)
 have HT:=Lib.hid ht
 have HB:=Lib.hid hB
 have HS:=Lib.hid hS
 have HQ:=Lib.hid hq
 have HBL:=Lib.hid hbl
 have CPL:=Lib.hid (fun w=>pathLengths_any At Ak nt nk ct ck a b c d e W H x r y T Z u sd (.slice Aq nq cq) w (by omega))
 have CSP:Hid (∀ (n:Nat) w,Calls Tryz.prog 69 #[.agg #[.int .i64 1,.int .i64 (d+1)],.int .i64 (n:Int)] w fun e' w'=>e'=.returned (.bool (insB n d))∧Kp w w'):=Lib.hid fun n w=>has_any 1 (d+1) n w
 have hlw:(wayN (fun j=>!hasB bl (j:Int) && pasB l m lt lr ld W us sd k j) W H src lt.length ua.toNat).length≤lt.length:=by
  have h1:=way_far (ok:=(fun j=>!hasB bl (j:Int) && pasB l m lt lr ld W us sd k j)) (src:=src) hlen hs ua.toNat
  have h2:=farN_bd (ok:=(fun j=>!hasB bl (j:Int) && pasB l m lt lr ld W us sd k j)) (src:=src) hlen hs ua.toNat
  omega
 clear ht hB hS hok hst hk hq hs hsl hsd hbl hl hd
 by_cases hu:ua=-1
 ·subst hu
  have KA:Kp w ((w.alloc (.cells #[.slice At nt ct,.slice Ak nk ck,.int .i64 a,.int .i64 b,.int .i64 c,.int .i64 d,.int .i64 e,.int .i64 W,.int .i64 H,x,r,y,.int .i64 T,.int .i64 Z,u,.int .i64 sd,.slice Aq nq cq] 147)).alloc (.cells #[.int .i64 us_,.int .i64 (k:Int),.int .i64 (-1),.int .i64 ut] 152)):=((Kp.refl w).alloc _).alloc _
  have CM:=Lib.hid (fun w=>onMap_no us_ (k:Int) ut w)
  rw [show (decide ((-1:Int) ≠ -1) && insB (wayN (fun j=>!hasB bl (j:Int) && pasB l m lt lr ld W us sd k j) W H src lt.length (-1:Int).toNat).length d)=false by simp]
  clear HWF CPL CSP hlw
  have cc:ce4 ((w.alloc (.cells #[.slice At nt ct,.slice Ak nk ck,.int .i64 a,.int .i64 b,.int .i64 c,.int .i64 d,.int .i64 e,.int .i64 W,.int .i64 H,x,r,y,.int .i64 T,.int .i64 Z,u,.int .i64 sd,.slice Aq nq cq] 147)).alloc (.cells #[.int .i64 us_,.int .i64 (k:Int),.int .i64 (-1),.int .i64 ut] 152)) (w.heap.size+1) (.int .i64 us_) (.int .i64 (k:Int)) (.int .i64 (-1)) (.int .i64 ut):=⟨by simp [go_sem],by simp [go_sem],by simp [go_sem],by simp [go_sem]⟩
  go_enter Tryz.func117,Tryz.ntmps117
  go_upto_region 1 with (fail)
  generalize ((w.alloc (.cells #[.slice At nt ct,.slice Ak nk ck,.int .i64 a,.int .i64 b,.int .i64 c,.int .i64 d,.int .i64 e,.int .i64 W,.int .i64 H,x,r,y,.int .i64 T,.int .i64 Z,u,.int .i64 sd,.slice Aq nq cq] 147)).alloc (.cells #[.int .i64 us_,.int .i64 (k:Int),.int .i64 (-1),.int .i64 ut] 152))=W0 at *
  obtain⟨c0,c1,c2,c3⟩:=cc
  go_wp2_with fail
  refine(CM.out _).mono ?_
  rintro e1 w1 ⟨rfl,k1⟩
  go_wp2_with fail
  go_ret2
  exact ListPostI.no (KA.trans k1)
 ·have CM:=Lib.hid (fun w=>onMap_yes us_ (k:Int) ua ut w hu)
  have hu2:0≤ua∧ua<lt.length:=by omega
  rw [show decide (ua ≠ -1)=true by simpa using hu,Bool.true_and]
  obtain⟨ux_,rfl⟩:=Int.eq_ofNat_of_zero_le hu2.1
  have KA:Kp w ((w.alloc (.cells #[.slice At nt ct,.slice Ak nk ck,.int .i64 a,.int .i64 b,.int .i64 c,.int .i64 d,.int .i64 e,.int .i64 W,.int .i64 H,x,r,y,.int .i64 T,.int .i64 Z,u,.int .i64 sd,.slice Aq nq cq] 147)).alloc (.cells #[.int .i64 us_,.int .i64 (k:Int),.int .i64 (ux_:Int),.int .i64 ut] 152)):=((Kp.refl w).alloc _).alloc _
  have CF:Hid (∀ w',Kp ((w.alloc (.cells #[.slice At nt ct,.slice Ak nk ck,.int .i64 a,.int .i64 b,.int .i64 c,.int .i64 d,.int .i64 e,.int .i64 W,.int .i64 H,x,r,y,.int .i64 T,.int .i64 Z,u,.int .i64 sd,.slice Aq nq cq] 147)).alloc (.cells #[.int .i64 us_,.int .i64 (k:Int),.int .i64 (ux_:Int),.int .i64 ut] 152)) w'→ce4 w' (w.heap.size+1) (.int .i64 us_) (.int .i64 (k:Int)) (.int .i64 (ux_:Int)) (.int .i64 ut)):=Lib.hid fun w' k=>⟨k.cell (by simp [go_sem]),k.cell (by simp [go_sem]),k.cell (by simp [go_sem]),k.cell (by simp [go_sem])⟩
  have H0:Hid (World.rangeAt ((w.alloc (.cells #[.slice At nt ct,.slice Ak nk ck,.int .i64 a,.int .i64 b,.int .i64 c,.int .i64 d,.int .i64 e,.int .i64 W,.int .i64 H,x,r,y,.int .i64 T,.int .i64 Z,u,.int .i64 sd,.slice Aq nq cq] 147)).alloc (.cells #[.int .i64 us_,.int .i64 (k:Int),.int .i64 (ux_:Int),.int .i64 ut] 152)) w.heap.size 0 [.slice At nt ct,.slice Ak nk ck,.int .i64 a,.int .i64 b,.int .i64 c,.int .i64 d,.int .i64 e,.int .i64 W,.int .i64 H,x,r,y,.int .i64 T,.int .i64 Z,u,.int .i64 sd,.slice Aq nq cq]):=Lib.hid (range_keep (range_fresh w [.slice At nt ct,.slice Ak nk ck,.int .i64 a,.int .i64 b,.int .i64 c,.int .i64 d,.int .i64 e,.int .i64 W,.int .i64 H,x,r,y,.int .i64 T,.int .i64 Z,u,.int .i64 sd,.slice Aq nq cq] 147) ((Kp.refl _).alloc _))
  have I17:Hid ((Tryz.prog.info? 147).map (·.size)=some 17):=Lib.hid (by kernel_rfl)
  have hux:ux_<lt.length:=by omega
  have hux':(ux_:Int)<lt.length:=by omega
  rw [show ((ux_:Int)).toNat=ux_ from Int.toNat_natCast ux_] at hlw ⊢
  have HWF2:Hid (∀ w,Tab w→BrdAt w At Ak nt nk l m x r y lt lr ld→StaAt w u us→RdI w (.slice Aq nq cq) (ints src)→RdI w (.slice Ab nb cb) bl→Calls Tryz.prog 169 #[.agg #[.slice At nt ct,.slice Ak nk ck,.int .i64 a,.int .i64 b,.int .i64 c,.int .i64 d,.int .i64 e,.int .i64 W,.int .i64 H,x,r,y,.int .i64 T,.int .i64 Z,u,.int .i64 sd,.slice Aq nq cq],.int .i64 (k:Int),.slice Ab nb cb] w fun e' w'=>∃ g z,e'=.returned (.slice (some ⟨g,0,none⟩) lt.length lt.length)∧w'.cell? ⟨g,ux_,none⟩=some z∧OwnI w' w.heap.size z (ints (wayN (fun j=>!hasB bl (j:Int) && pasB l m lt lr ld W us sd k j) W H src lt.length ux_))∧Kp w w'):=Lib.hid fun w ht hB hS hq hbl=>(HWF.out w ht hB hS hq hbl).mono fun e' w' h=>by
   obtain⟨g,h1,_,h2,h3⟩:=h
   obtain⟨z,h4,h5⟩:=h2 ux_ hux
   exact⟨g,z,h1,h4,h5,h3⟩
  clear HWF hu hu2 hua hlen hux
  generalize (wayN (fun j=>!hasB bl (j:Int) && pasB l m lt lr ld W us sd k j) W H src lt.length ux_)=WL at HWF2 hlw ⊢
  have hln:Hid ((ints WL).length=WL.length):=Lib.hid (ints_len WL)
  generalize lt.length=N at *
  generalize ints WL=IW at *
  generalize WL.length=n at *
  have CI:=Lib.hid (fun w=>CSP.out n w)
  clear CSP
  cases hin:insB n d
  all_goals
   rw [hin] at CI
   clear hin
   go_enter Tryz.func117,Tryz.ntmps117
   go_upto_region 1 with (fail)
   generalize ((w.alloc (.cells #[.slice At nt ct,.slice Ak nk ck,.int .i64 a,.int .i64 b,.int .i64 c,.int .i64 d,.int .i64 e,.int .i64 W,.int .i64 H,x,r,y,.int .i64 T,.int .i64 Z,u,.int .i64 sd,.slice Aq nq cq] 147)).alloc (.cells #[.int .i64 us_,.int .i64 (k:Int),.int .i64 (ux_:Int),.int .i64 ut] 152))=W0 at *
   obtain⟨c0,c1,c2,c3⟩:=CF.out W0 (Kp.refl _)
   go_wp2_with fail
   refine(CM.out _).mono ?_
   rintro e1 w1 ⟨rfl,k1⟩
   clear c0 c1 c2 c3
   go_upto_region 3 with (fail)
   have kd:=k1.drew
   have sg:w1.drew.rangeAt w.heap.size 0 [.slice At nt ct,.slice Ak nk ck,.int .i64 a,.int .i64 b,.int .i64 c,.int .i64 d,.int .i64 e,.int .i64 W,.int .i64 H,x,r,y,.int .i64 T,.int .i64 Z,u,.int .i64 sd,.slice Aq nq cq]∧cb4 (w1.drew) (w.heap.size+1) (.int .i64 us_) (.int .i64 (k:Int)) (.int .i64 (ux_:Int)) (.int .i64 ut) (Kp W0 w1.drew):=⟨range_keep H0.out kd,(CF.out _ kd).1,(CF.out _ kd).2.1,(CF.out _ kd).2.2.1,(CF.out _ kd).2.2.2,kd⟩
   clear k1 kd
   refine wp_region_held_drew (S:=(fun w'=>w'.rangeAt w.heap.size 0 [.slice At nt ct,.slice Ak nk ck,.int .i64 a,.int .i64 b,.int .i64 c,.int .i64 d,.int .i64 e,.int .i64 W,.int .i64 H,x,r,y,.int .i64 T,.int .i64 Z,u,.int .i64 sd,.slice Aq nq cq]∧cb4 w' (w.heap.size+1) (.int .i64 us_) (.int .i64 (k:Int)) (.int .i64 (ux_:Int)) (.int .i64 ut) (Kp W0 w'))) (by kernel_rfl) ?_ (fun hHeld=>?_)
   ·assumption
   generalize w1.drew=V at *
   refine wpAnyH_take (i:=0) (oi:=⟨some 12,_,_,_,_,_⟩) (v:=.agg ([.slice At nt ct,.slice Ak nk ck,.int .i64 a,.int .i64 b,.int .i64 c,.int .i64 d,.int .i64 e,.int .i64 W,.int .i64 H,x,r,y,.int .i64 T,.int .i64 Z,u,.int .i64 sd,.slice Aq nq cq]).toArray) rfl (by kernel_rfl) (by kernel_rfl) (by kernel_rfl) (fun _ _ _ h=>h) (yieldsIf_load_mid (by rfl) 147 _ rfl (w.heap.size) 0 rfl [.slice At nt ct,.slice Ak nk ck,.int .i64 a,.int .i64 b,.int .i64 c,.int .i64 d,.int .i64 e,.int .i64 W,.int .i64 H,x,r,y,.int .i64 T,.int .i64 Z,u,.int .i64 sd,.slice Aq nq cq] _ (fun w' h=>h.1) Tryz.underlying147 rfl (by kernel_rfl)) (by assumption) ?_
   try simp only [Act.put,sA,sB,sC]
   refine tk 1 ⟨some 13,_,_,_,_,_⟩ ?_ rfl (by kernel_rfl) (fun _ _ _ h=>h) (by rfl) ?_ (by assumption) ?_
   rotate_left
   ·intro w hSw;(try dsimp only at hSw);go_simp;(all_goals with_reducible rfl)
   try simp only [Act.put,sA,sB,sC]
   refine tk 2 ⟨some 14,_,_,_,_,_⟩ ?_ rfl (by kernel_rfl) (fun _ _ _ h=>h) (by rfl) ?_ (by assumption) ?_
   rotate_left
   ·intro w hSw;(try dsimp only at hSw);go_simp;(all_goals with_reducible rfl)
   try simp only [Act.put,sA,sB,sC]
   refine tk 3 ⟨some 15,_,_,_,_,_⟩ ?_ rfl (by kernel_rfl) (fun _ _ _ h=>h) (by rfl) ?_ (by assumption) ?_
   rotate_left
   ·intro w hSw;(try dsimp only at hSw);go_simp;(all_goals with_reducible rfl)
   try simp only [Act.put,sA,sB,sC]
   refine tk 5 ⟨some 17,_,_,_,_,_⟩ ?_ rfl (by kernel_rfl) (fun _ _ _ h=>h) (by rfl) ?_ (by assumption) ?_
   rotate_left
   ·intro w hSw;(try dsimp only at hSw);go_simp;(all_goals with_reducible rfl)
   try simp only [Act.put,sA,sB,sC]
   refine tk 6 ⟨some 18,_,_,_,_,_⟩ ?_ rfl (by kernel_rfl) (fun _ _ _ h=>h) (by rfl) ?_ (by assumption) ?_
   rotate_left
   ·intro w hSw;(try dsimp only at hSw);go_simp;(all_goals with_reducible rfl)
   try simp only [Act.put,sA,sB,sC]
   refine wpAnyH_ready (rs:=[4]) (by kernel_rfl) (by simp) ?_
   refine(AllReadyH.cons (o:=⟨some 16,_,_,_,_,_⟩) rfl (fun K hK=>?_) AllReadyH.nil)
   go_simp
   refine(HWF2.out _ (HT.out.keep (KA.trans hHeld.2.2.2.2.2)) (HB.out.keep (KA.trans hHeld.2.2.2.2.2)) (HS.out.keep (KA.trans hHeld.2.2.2.2.2)) (HQ.out.keep (KA.trans hHeld.2.2.2.2.2)) (HBL.out.keep (KA.trans hHeld.2.2.2.2.2))).mono ?_
   rintro e3 w3 ⟨g,z,rfl,hz,oz,k3⟩
   have s3:w3.rangeAt w.heap.size 0 [.slice At nt ct,.slice Ak nk ck,.int .i64 a,.int .i64 b,.int .i64 c,.int .i64 d,.int .i64 e,.int .i64 W,.int .i64 H,x,r,y,.int .i64 T,.int .i64 Z,u,.int .i64 sd,.slice Aq nq cq]∧cb4 w3 (w.heap.size+1) (.int .i64 us_) (.int .i64 (k:Int)) (.int .i64 (ux_:Int)) (.int .i64 ut) (Kp W0 w3):=⟨range_keep hHeld.1 k3,k3.cell hHeld.2.1,k3.cell hHeld.2.2.1,k3.cell hHeld.2.2.2.1,k3.cell hHeld.2.2.2.2.1,hHeld.2.2.2.2.2.trans k3⟩
   obtain⟨Az,cz,hzz⟩:∃ A c,z=.slice A n c:=by
    obtain⟨A,c,h⟩:=oz.slice
    exact⟨A,c,by rw [h,hln.out]⟩
   subst hzz
   have HOZ:=Lib.hid (oz.base (b:=w.heap.size) (KA.trans hHeld.2.2.2.2.2).size)
   clear oz k3
   go_wp2_with fail
   refine hK.out _ _ ?_ (fun hHeld=>?_)
   ·(try dsimp only);(first | assumption)
   clear hK K
   try simp only [Act.put,sA,sB,sC]
   refine tk 7 ⟨some 19,_,_,_,_,_⟩ ?_ rfl (by kernel_rfl) (fun _ _ _ h=>h) (by rfl) ?_ (by assumption) ?_
   rotate_left
   ·intro w hSw;(try dsimp only at hSw);go_simp;(all_goals with_reducible rfl)
   try simp only [Act.put,sA,sB,sC]
   refine wpAnyH_ready (rs:=[8]) (by kernel_rfl) (by simp) ?_
   refine(AllReadyH.cons (o:=⟨some 20,_,_,_,_,_⟩) rfl (fun K hK=>?_) AllReadyH.nil)
   go_simp
   refine hK.out _ _ ?_ (fun hHeld=>?_)
   ·(try dsimp only);(first | assumption)
   clear hK K
   try simp only [Act.put,sA,sB,sC]
   refine tk 9 ⟨some 8,_,_,_,_,_⟩ ?_ rfl (by kernel_rfl) (fun _ _ _ h=>h) (by rfl) ?_ (by assumption) ?_
   rotate_left
   ·intro w hSw;(try dsimp only at hSw);go_simp;(all_goals with_reducible rfl)
   try simp only [Act.put,sA,sB,sC]
   refine wpAnyH_done (by kernel_rfl) ?_ _
   have k4:=hHeld.2.2.2.2.2
   clear hHeld hz s3
   have s0:=range_keep H0.out k4
   obtain⟨c0,c1,c2,c3⟩:=CF.out _ k4
   go_wp2_with (first | ((with_reducible refine load_m s0 Tryz.underlying147 ?_ ?_ ?_ ?_ ?_);exact I17.out;rfl;rfl;rfl))
   refine(CPL.out _).mono ?_
   rintro e4 w4 ⟨rfl,q4⟩
   have HOZ4:=Lib.hid (HOZ.out.keep q4)
   have k5:=k4.trans q4
   clear k4 HOZ q4 s0 c0 c1 c2 c3
   go_wp2_with fail
   refine(CI.out _).mono ?_
   rintro e5 w5 ⟨rfl,q5⟩
   have k50:=KA.trans (k5.trans q5)
   have HOZ5:=Lib.hid (HOZ4.out.keep q5)
   clear k5 HOZ4 q5
   go_wp2_with fail
   go_ret2
   first | exact ListPostI.no k50 | exact⟨_,rfl,HOZ5.out,k50⟩
set_option maxRecDepth 100000 in
set_option maxHeartbeats 4000000 in
theorem supplies_any (At Ak:Option Addr) (nt nk ct ck:Nat) (l:List Ter) (m:List Knd) (a b c d e W H:Int) (x r y:Value) (lt lr ld:List Int) (T Z:Int) (u:Value) (us:List Uni) (sd:Int) (Aq:Option Addr) (nq cq:Nat) (src:List Nat) (k:Nat) (us_ ua ut:Int) (Ab:Option Addr) (nb cb:Nat) (bl:List Int) (w:World) (ht:Tab w) (hB:BrdAt w At Ak nt nk l m x r y lt lr ld) (hS:StaAt w u us) (hok:brdOk ⟨l,m,a,b,c,d,e⟩ W H lt lr ld=true) (hst:staOk ⟨l,m,a,b,c,d,e⟩ W H lt T Z us=true) (hk:k<m.length) (hq:RdI w (.slice Aq nq cq) (ints src)) (hs:∀ k ∈ src,k<lt.length) (hsl:src.length≤100) (hsd:sd=0∨sd=1) (hbl:RdI w (.slice Ab nb cb) bl) (hl:bl.length≤1048576) (hua:ua=-1∨(0≤ua∧ua<lt.length)) :
  Calls Tryz.prog 109 #[.agg #[.slice At nt ct,.slice Ak nk ck,.int .i64 a,.int .i64 b,.int .i64 c,.int .i64 d,.int .i64 e,.int .i64 W,.int .i64 H,x,r,y,.int .i64 T,.int .i64 Z,u,.int .i64 sd,.slice Aq nq cq],.agg #[.int .i64 us_,.int .i64 (k:Int),.int .i64 ua,.int .i64 ut],.slice Ab nb cb] w fun e' w'=>e'=.returned (.bool (decide (ua ≠ -1) && insB (wayN (fun j=>!hasB bl (j:Int) && pasB l m lt lr ld W us sd k j) W H src lt.length ua.toNat).length d))∧Kp w w':=by
 have KA:Kp w ((w.alloc (.cells #[.slice At nt ct,.slice Ak nk ck,.int .i64 a,.int .i64 b,.int .i64 c,.int .i64 d,.int .i64 e,.int .i64 W,.int .i64 H,x,r,y,.int .i64 T,.int .i64 Z,u,.int .i64 sd,.slice Aq nq cq] 147)).alloc (.cells #[.int .i64 us_,.int .i64 (k:Int),.int .i64 ua,.int .i64 ut] 152)):=((Kp.refl w).alloc _).alloc _
 have s0:World.rangeAt ((w.alloc (.cells #[.slice At nt ct,.slice Ak nk ck,.int .i64 a,.int .i64 b,.int .i64 c,.int .i64 d,.int .i64 e,.int .i64 W,.int .i64 H,x,r,y,.int .i64 T,.int .i64 Z,u,.int .i64 sd,.slice Aq nq cq] 147)).alloc (.cells #[.int .i64 us_,.int .i64 (k:Int),.int .i64 ua,.int .i64 ut] 152)) w.heap.size 0 [.slice At nt ct,.slice Ak nk ck,.int .i64 a,.int .i64 b,.int .i64 c,.int .i64 d,.int .i64 e,.int .i64 W,.int .i64 H,x,r,y,.int .i64 T,.int .i64 Z,u,.int .i64 sd,.slice Aq nq cq]:=range_keep (range_fresh w [.slice At nt ct,.slice Ak nk ck,.int .i64 a,.int .i64 b,.int .i64 c,.int .i64 d,.int .i64 e,.int .i64 W,.int .i64 H,x,r,y,.int .i64 T,.int .i64 Z,u,.int .i64 sd,.slice Aq nq cq] 147) ((Kp.refl _).alloc _)
 have cc:ce4 ((w.alloc (.cells #[.slice At nt ct,.slice Ak nk ck,.int .i64 a,.int .i64 b,.int .i64 c,.int .i64 d,.int .i64 e,.int .i64 W,.int .i64 H,x,r,y,.int .i64 T,.int .i64 Z,u,.int .i64 sd,.slice Aq nq cq] 147)).alloc (.cells #[.int .i64 us_,.int .i64 (k:Int),.int .i64 ua,.int .i64 ut] 152)) (w.heap.size+1) (.int .i64 us_) (.int .i64 (k:Int)) (.int .i64 ua) (.int .i64 ut):=⟨by simp [go_sem],by simp [go_sem],by simp [go_sem],by simp [go_sem]⟩
 have I17:Hid ((Tryz.prog.info? 147).map (·.size)=some 17):=Lib.hid (by kernel_rfl)
 have CP:=Lib.hid (pathTo_any At Ak nt nk ct ck l m a b c d e W H x r y lt lr ld T Z u us sd Aq nq cq src k us_ ua ut Ab nb cb bl ((w.alloc (.cells #[.slice At nt ct,.slice Ak nk ck,.int .i64 a,.int .i64 b,.int .i64 c,.int .i64 d,.int .i64 e,.int .i64 W,.int .i64 H,x,r,y,.int .i64 T,.int .i64 Z,u,.int .i64 sd,.slice Aq nq cq] 147)).alloc (.cells #[.int .i64 us_,.int .i64 (k:Int),.int .i64 ua,.int .i64 ut] 152)) (ht.keep KA) (hB.keep KA) (hS.keep KA) hok hst hk (hq.keep KA) hs hsl hsd (hbl.keep KA) hl hua)
 generalize (decide (ua ≠ -1) && insB (wayN (fun j=>!hasB bl (j:Int) && pasB l m lt lr ld W us sd k j) W H src lt.length ua.toNat).length d)=R at CP ⊢
 generalize ints (wayN (fun j=>!hasB bl (j:Int) && pasB l m lt lr ld W us sd k j) W H src lt.length ua.toNat)=LL at CP
 clear ht hB hS hok hst hk hq hs hsl hsd hbl hl hua
 go_enter Tryz.func109,Tryz.ntmps109
 go_upto_region 1 with (fail)
 generalize ((w.alloc (.cells #[.slice At nt ct,.slice Ak nk ck,.int .i64 a,.int .i64 b,.int .i64 c,.int .i64 d,.int .i64 e,.int .i64 W,.int .i64 H,x,r,y,.int .i64 T,.int .i64 Z,u,.int .i64 sd,.slice Aq nq cq] 147)).alloc (.cells #[.int .i64 us_,.int .i64 (k:Int),.int .i64 ua,.int .i64 ut] 152))=W0 at *
 obtain⟨c0,c1,c2,c3⟩:=cc
 go_wp2_with (first | ((with_reducible refine load_m s0 Tryz.underlying147 ?_ ?_ ?_ ?_ ?_);exact I17.out;rfl;rfl;rfl))
 refine CP.out.mono ?_
 rintro e1 w1 ⟨v1,rfl,_,k1⟩
 go_wp2_with fail
 go_ret
 exact⟨rfl,KA.trans k1⟩
end Go.Proofs.YtacgknllagdkoaaGreatDoor
