/-
 The code of an order, of the reference. Nothing that was there is changed.
-/
import Derived.Test.YtacgknllagdkoaaGreatDoorOrS
import Derived.StillTailTactics
import Derived.Deep.Cut
import Derived.Maps.AppendAt
import Derived.Test.YtacgknllagdkoaaGreatDoorQa
import Derived.Test.YtacgknllagdkoaaGreatDoorQa
namespace Go.Proofs.YtacgknllagdkoaaGreatDoor
open Go.RowKit
set_option maxRecDepth 100000 in
set_option maxHeartbeats 4000000 in
theorem oFault_no (At Ak:Option Addr) (nt nk ct ck:Nat) (_l:List Ter) (_m:List Knd) (a b c d e W H:Int) (x r y:Value) (_lt _lr _ld:List Int) (T Z:Int) (u:Value) (us:List Uni) (sd un at':Int) (v:Value) (w:World) (hS:StaAt w u us) (ha:∀ z ∈ us,z.a=-1∨0≤z.a) (hg:plcB us sd un=false) :
  Calls Tryz.prog 64 #[bv (.slice At nt ct) (.slice Ak nk ck) a b c d e W H x r y,sv T Z u,.int .i64 sd,.agg #[.int .i64 un,v,.int .i64 at']] w fun e' w'=>e'=.returned (.int .i64 1)∧Kp w w':=by
 have KA:Kp w (((w.alloc (.cells #[.slice At nt ct,.slice Ak nk ck,.int .i64 a,.int .i64 b,.int .i64 c,.int .i64 d,.int .i64 e,.int .i64 W,.int .i64 H,x,r,y] 47)).alloc (.cells #[.int .i64 T,.int .i64 Z,u] 51)).alloc (.cells #[.int .i64 un,v,.int .i64 at'] 53)):=((((Kp.refl w).alloc _).alloc _).alloc _)
 have s0:cb12 (((w.alloc (.cells #[.slice At nt ct,.slice Ak nk ck,.int .i64 a,.int .i64 b,.int .i64 c,.int .i64 d,.int .i64 e,.int .i64 W,.int .i64 H,x,r,y] 47)).alloc (.cells #[.int .i64 T,.int .i64 Z,u] 51)).alloc (.cells #[.int .i64 un,v,.int .i64 at'] 53)) (w.heap.size) (.slice At nt ct) (.slice Ak nk ck) (.int .i64 a) (.int .i64 b) (.int .i64 c) (.int .i64 d) (.int .i64 e) (.int .i64 W) (.int .i64 H) (x) (r) (y) (cb3 (((w.alloc (.cells #[.slice At nt ct,.slice Ak nk ck,.int .i64 a,.int .i64 b,.int .i64 c,.int .i64 d,.int .i64 e,.int .i64 W,.int .i64 H,x,r,y] 47)).alloc (.cells #[.int .i64 T,.int .i64 Z,u] 51)).alloc (.cells #[.int .i64 un,v,.int .i64 at'] 53)) (w.heap.size+1) (.int .i64 T) (.int .i64 Z) (u) (cb3 (((w.alloc (.cells #[.slice At nt ct,.slice Ak nk ck,.int .i64 a,.int .i64 b,.int .i64 c,.int .i64 d,.int .i64 e,.int .i64 W,.int .i64 H,x,r,y] 47)).alloc (.cells #[.int .i64 T,.int .i64 Z,u] 51)).alloc (.cells #[.int .i64 un,v,.int .i64 at'] 53)) (w.heap.size+1+1) (.int .i64 un) (v) (.int .i64 at') (Kp w (((w.alloc (.cells #[.slice At nt ct,.slice Ak nk ck,.int .i64 a,.int .i64 b,.int .i64 c,.int .i64 d,.int .i64 e,.int .i64 W,.int .i64 H,x,r,y] 47)).alloc (.cells #[.int .i64 T,.int .i64 Z,u] 51)).alloc (.cells #[.int .i64 un,v,.int .i64 at'] 53))))):=⟨by simp [go_sem],by simp [go_sem],by simp [go_sem],by simp [go_sem],by simp [go_sem],by simp [go_sem],by simp [go_sem],by simp [go_sem],by simp [go_sem],by simp [go_sem],by simp [go_sem],by simp [go_sem],by simp [go_sem],by simp [go_sem],by simp [go_sem],by simp [go_sem],by simp [go_sem],by simp [go_sem],KA⟩
 have HS:=Lib.hid hS
 have CP:=Lib.hid (fun (w:World) hS=>oPlaced_any T Z u us sd un w hS ha)
 rw [hg] at CP
 clear hS ha hg
 go_enter Tryz.func64,Tryz.ntmps64
 go_wp2_with fail
 refine(CP.out _ (HS.out.keep s0.2.2.2.2.2.2.2.2.2.2.2.2.2.2.2.2.2.2)).mono ?_
 rintro e1 w1 ⟨rfl,k1⟩
 go_wp2_with fail
 go_ret
 exact⟨rfl,s0.2.2.2.2.2.2.2.2.2.2.2.2.2.2.2.2.2.2.trans k1⟩
set_option maxRecDepth 100000 in
set_option maxHeartbeats 4000000 in
theorem oFault_ya (At:Option Addr) (nt nk ct ck:Nat) (l:List Ter) (m:List Knd) (a b c d e W H:Int) (x r y:Value) (lt lr ld:List Int) (T Z:Int) (us:List Uni) (k j:Nat) (sx ax tx:Int) (gu ou N cp gk ok':Nat) (sd at' mv:Int) (v:Value) (p:List Int) (w:World) (hB:BrdAt w At (some ⟨gk,ok',none⟩) nt nk l m x r y lt lr ld) (hS:StaAt w (.slice (some ⟨gu,ou,none⟩) N cp) us) (hok:brdOk ⟨l,m,a,b,c,d,e⟩ W H lt lr ld=true) (hw:Z=0∨Z=1∨Z=2) (hp:RdI w v p) (hl:p.length≤1048576) (hk:k<N) (hj:j<m.length) (hx:onI W H ax=true) (q:w.cell? ⟨gu,ou+k*4,none⟩=some (.int .i64 sx)∧w.cell? ⟨gu,ou+k*4+1,none⟩=some (.int .i64 (j:Int))∧w.cell? ⟨gu,ou+k*4+2,none⟩=some (.int .i64 ax)∧w.cell? ⟨gu,ou+k*4+3,none⟩=some (.int .i64 tx)) (hmc:w.cell? ⟨gk,ok'+j*6+2,none⟩=some (.int .i64 mv)) (ha:∀ z ∈ us,z.a=-1∨0≤z.a) (hg:plcB us sd (k:Int)=true) (hgo:goB (stp l lt lr ld W H b c j Z) W ax p=false) :
  Calls Tryz.prog 64 #[bv (.slice At nt ct) (.slice (some ⟨gk,ok',none⟩) nk ck) a b c d e W H x r y,sv T Z (.slice (some ⟨gu,ou,none⟩) N cp),.int .i64 sd,.agg #[.int .i64 (k:Int),v,.int .i64 at']] w fun e' w'=>e'=.returned (.int .i64 3)∧Kp w w':=by
 have KA:Kp w (((w.alloc (.cells #[.slice At nt ct,.slice (some ⟨gk,ok',none⟩) nk ck,.int .i64 a,.int .i64 b,.int .i64 c,.int .i64 d,.int .i64 e,.int .i64 W,.int .i64 H,x,r,y] 47)).alloc (.cells #[.int .i64 T,.int .i64 Z,.slice (some ⟨gu,ou,none⟩) N cp] 51)).alloc (.cells #[.int .i64 (k:Int),v,.int .i64 at'] 53)):=(((Kp.refl w).alloc _).alloc _).alloc _
 have s0:cb12 (((w.alloc (.cells #[.slice At nt ct,.slice (some ⟨gk,ok',none⟩) nk ck,.int .i64 a,.int .i64 b,.int .i64 c,.int .i64 d,.int .i64 e,.int .i64 W,.int .i64 H,x,r,y] 47)).alloc (.cells #[.int .i64 T,.int .i64 Z,.slice (some ⟨gu,ou,none⟩) N cp] 51)).alloc (.cells #[.int .i64 (k:Int),v,.int .i64 at'] 53)) (w.heap.size) (.slice At nt ct) (.slice (some ⟨gk,ok',none⟩) nk ck) (.int .i64 a) (.int .i64 b) (.int .i64 c) (.int .i64 d) (.int .i64 e) (.int .i64 W) (.int .i64 H) (x) (r) (y) (cb3 (((w.alloc (.cells #[.slice At nt ct,.slice (some ⟨gk,ok',none⟩) nk ck,.int .i64 a,.int .i64 b,.int .i64 c,.int .i64 d,.int .i64 e,.int .i64 W,.int .i64 H,x,r,y] 47)).alloc (.cells #[.int .i64 T,.int .i64 Z,.slice (some ⟨gu,ou,none⟩) N cp] 51)).alloc (.cells #[.int .i64 (k:Int),v,.int .i64 at'] 53)) (w.heap.size+1) (.int .i64 T) (.int .i64 Z) (.slice (some ⟨gu,ou,none⟩) N cp) (cb3 (((w.alloc (.cells #[.slice At nt ct,.slice (some ⟨gk,ok',none⟩) nk ck,.int .i64 a,.int .i64 b,.int .i64 c,.int .i64 d,.int .i64 e,.int .i64 W,.int .i64 H,x,r,y] 47)).alloc (.cells #[.int .i64 T,.int .i64 Z,.slice (some ⟨gu,ou,none⟩) N cp] 51)).alloc (.cells #[.int .i64 (k:Int),v,.int .i64 at'] 53)) (w.heap.size+1+1) (.int .i64 (k:Int)) (v) (.int .i64 at') ((((w.alloc (.cells #[.slice At nt ct,.slice (some ⟨gk,ok',none⟩) nk ck,.int .i64 a,.int .i64 b,.int .i64 c,.int .i64 d,.int .i64 e,.int .i64 W,.int .i64 H,x,r,y] 47)).alloc (.cells #[.int .i64 T,.int .i64 Z,.slice (some ⟨gu,ou,none⟩) N cp] 51)).alloc (.cells #[.int .i64 (k:Int),v,.int .i64 at'] 53)).cell? ⟨gu,ou+k*4,none⟩=some (.int .i64 sx)∧(((w.alloc (.cells #[.slice At nt ct,.slice (some ⟨gk,ok',none⟩) nk ck,.int .i64 a,.int .i64 b,.int .i64 c,.int .i64 d,.int .i64 e,.int .i64 W,.int .i64 H,x,r,y] 47)).alloc (.cells #[.int .i64 T,.int .i64 Z,.slice (some ⟨gu,ou,none⟩) N cp] 51)).alloc (.cells #[.int .i64 (k:Int),v,.int .i64 at'] 53)).cell? ⟨gu,ou+k*4+1,none⟩=some (.int .i64 (j:Int))∧(((w.alloc (.cells #[.slice At nt ct,.slice (some ⟨gk,ok',none⟩) nk ck,.int .i64 a,.int .i64 b,.int .i64 c,.int .i64 d,.int .i64 e,.int .i64 W,.int .i64 H,x,r,y] 47)).alloc (.cells #[.int .i64 T,.int .i64 Z,.slice (some ⟨gu,ou,none⟩) N cp] 51)).alloc (.cells #[.int .i64 (k:Int),v,.int .i64 at'] 53)).cell? ⟨gu,ou+k*4+2,none⟩=some (.int .i64 ax)∧(((w.alloc (.cells #[.slice At nt ct,.slice (some ⟨gk,ok',none⟩) nk ck,.int .i64 a,.int .i64 b,.int .i64 c,.int .i64 d,.int .i64 e,.int .i64 W,.int .i64 H,x,r,y] 47)).alloc (.cells #[.int .i64 T,.int .i64 Z,.slice (some ⟨gu,ou,none⟩) N cp] 51)).alloc (.cells #[.int .i64 (k:Int),v,.int .i64 at'] 53)).cell? ⟨gu,ou+k*4+3,none⟩=some (.int .i64 tx)∧(((w.alloc (.cells #[.slice At nt ct,.slice (some ⟨gk,ok',none⟩) nk ck,.int .i64 a,.int .i64 b,.int .i64 c,.int .i64 d,.int .i64 e,.int .i64 W,.int .i64 H,x,r,y] 47)).alloc (.cells #[.int .i64 T,.int .i64 Z,.slice (some ⟨gu,ou,none⟩) N cp] 51)).alloc (.cells #[.int .i64 (k:Int),v,.int .i64 at'] 53)).cell? ⟨gk,ok'+j*6+2,none⟩=some (.int .i64 mv)∧Kp w (((w.alloc (.cells #[.slice At nt ct,.slice (some ⟨gk,ok',none⟩) nk ck,.int .i64 a,.int .i64 b,.int .i64 c,.int .i64 d,.int .i64 e,.int .i64 W,.int .i64 H,x,r,y] 47)).alloc (.cells #[.int .i64 T,.int .i64 Z,.slice (some ⟨gu,ou,none⟩) N cp] 51)).alloc (.cells #[.int .i64 (k:Int),v,.int .i64 at'] 53))))):=⟨by simp [go_sem],by simp [go_sem],by simp [go_sem],by simp [go_sem],by simp [go_sem],by simp [go_sem],by simp [go_sem],by simp [go_sem],by simp [go_sem],by simp [go_sem],by simp [go_sem],by simp [go_sem],by simp [go_sem],by simp [go_sem],by simp [go_sem],by simp [go_sem],by simp [go_sem],by simp [go_sem],KA.cell q.1,KA.cell q.2.1,KA.cell q.2.2.1,KA.cell q.2.2.2,KA.cell hmc,KA⟩
 have HB:=Lib.hid hB
 have HS:=Lib.hid hS
 have HP:=Lib.hid hp
 have hk':(k:Int)<N:=by omega
 have hnk:j<nk:=by have:=hB.R.rk.1;omega
 have hnk':(j:Int)<nk:=by omega
 obtain⟨g1,g2,g3,g4⟩:=mapOk_side (brdOk_map hok)
 have CP:=Lib.hid (fun (w:World) hS=>oPlaced_any T Z (.slice (some ⟨gu,ou,none⟩) N cp) us sd (k:Int) w hS ha)
 rw [hg] at CP
 have CC:=Lib.hid (fun (w:World) hB hp q=>oCost_yes At nt nk ct ck l m a b c d e W H x r y lt lr ld T Z us k j sx ax tx gu ou N cp gk ok' at' v p w hB hok hw hp hl hk hj hx q)
 have CE:Hid (goB (stp l lt lr ld W H b c j Z) W ax p=true→∀ w,RdI w v p→(w.cell? ⟨gu,ou+k*4,none⟩=some (.int .i64 sx)∧w.cell? ⟨gu,ou+k*4+1,none⟩=some (.int .i64 (j:Int))∧w.cell? ⟨gu,ou+k*4+2,none⟩=some (.int .i64 ax)∧w.cell? ⟨gu,ou+k*4+3,none⟩=some (.int .i64 tx))→Calls Tryz.prog 86 #[bv (.slice At nt ct) (.slice (some ⟨gk,ok',none⟩) nk ck) a b c d e W H x r y,sv T Z (.slice (some ⟨gu,ou,none⟩) N cp),.agg #[.int .i64 (k:Int),v,.int .i64 at']] w fun e' w'=>e'=.returned (.int .i64 (endP W ax p))∧Kp w w'):=Lib.hid fun hgo w hp q=>oEnd_yes At nt nk ct ck l m a b c d e W H x r y lt lr ld T Z us k j sx ax tx gu ou N cp gk ok' at' v p w hok hp hk hx q hgo
 have HON:Hid (goB (stp l lt lr ld W H b c j Z) W ax p=true→onI W H (endP W ax p)=true):=Lib.hid fun h=>wlk_on step_nb p ax hx (goB_pth h).2
 have HSM:Hid (0≤sumL (cstP (stp l lt lr ld W H b c j Z) W ax p)):=Lib.hid (sumL_bd (B:=20) (by omega) _ (cstP_bd (W:=W) (stp_bd hok hj hw) p ax)).1
 generalize sumL (cstP (stp l lt lr ld W H b c j Z) W ax p)=R at CC HSM ⊢
 generalize endP W ax p=E at CE HON ⊢
 clear hB hS hok hw hp hl hj hx q hmc ha hg
 rw [hgo,if_neg (by simp)] at CC
 clear CE HON HSM hgo
 go_enter Tryz.func64,Tryz.ntmps64
 go_wp2_with fail
 refine(CP.out _ (HS.out.keep s0.2.2.2.2.2.2.2.2.2.2.2.2.2.2.2.2.2.2.2.2.2.2.2)).mono ?_
 rintro e1 w1 ⟨rfl,k1⟩
 have s1:=keepe23 k1 s0
 clear s0 k1
 go_wp2_with fail
 refine(CC.out _ (HB.out.keep s1.2.2.2.2.2.2.2.2.2.2.2.2.2.2.2.2.2.2.2.2.2.2.2) (HP.out.keep s1.2.2.2.2.2.2.2.2.2.2.2.2.2.2.2.2.2.2.2.2.2.2.2) ⟨s1.2.2.2.2.2.2.2.2.2.2.2.2.2.2.2.2.2.2.1,s1.2.2.2.2.2.2.2.2.2.2.2.2.2.2.2.2.2.2.2.1,s1.2.2.2.2.2.2.2.2.2.2.2.2.2.2.2.2.2.2.2.2.1,s1.2.2.2.2.2.2.2.2.2.2.2.2.2.2.2.2.2.2.2.2.2.1⟩).mono ?_
 rintro e2 w2 ⟨rfl,k2⟩
 have s2:=keepe23 k2 s1
 clear s1 k2
 go_wp2_with fail
 go_ret
 exact⟨rfl,s2.2.2.2.2.2.2.2.2.2.2.2.2.2.2.2.2.2.2.2.2.2.2.2⟩
set_option maxRecDepth 100000 in
set_option maxHeartbeats 4000000 in
theorem oFault_yb (At:Option Addr) (nt nk ct ck:Nat) (l:List Ter) (m:List Knd) (a b c d e W H:Int) (x r y:Value) (lt lr ld:List Int) (T Z:Int) (us:List Uni) (k j:Nat) (sx ax tx:Int) (gu ou N cp gk ok':Nat) (sd at' mv:Int) (v:Value) (p:List Int) (w:World) (hB:BrdAt w At (some ⟨gk,ok',none⟩) nt nk l m x r y lt lr ld) (hS:StaAt w (.slice (some ⟨gu,ou,none⟩) N cp) us) (hok:brdOk ⟨l,m,a,b,c,d,e⟩ W H lt lr ld=true) (hw:Z=0∨Z=1∨Z=2) (hp:RdI w v p) (hl:p.length≤1048576) (hk:k<N) (hj:j<m.length) (hx:onI W H ax=true) (q:w.cell? ⟨gu,ou+k*4,none⟩=some (.int .i64 sx)∧w.cell? ⟨gu,ou+k*4+1,none⟩=some (.int .i64 (j:Int))∧w.cell? ⟨gu,ou+k*4+2,none⟩=some (.int .i64 ax)∧w.cell? ⟨gu,ou+k*4+3,none⟩=some (.int .i64 tx)) (hmc:w.cell? ⟨gk,ok'+j*6+2,none⟩=some (.int .i64 mv)) (ha:∀ z ∈ us,z.a=-1∨0≤z.a) (hg:plcB us sd (k:Int)=true) (hgo:goB (stp l lt lr ld W H b c j Z) W ax p=true) (hmo:mv<sumL (cstP (stp l lt lr ld W H b c j Z) W ax p)) :
  Calls Tryz.prog 64 #[bv (.slice At nt ct) (.slice (some ⟨gk,ok',none⟩) nk ck) a b c d e W H x r y,sv T Z (.slice (some ⟨gu,ou,none⟩) N cp),.int .i64 sd,.agg #[.int .i64 (k:Int),v,.int .i64 at']] w fun e' w'=>e'=.returned (.int .i64 4)∧Kp w w':=by
 have KA:Kp w (((w.alloc (.cells #[.slice At nt ct,.slice (some ⟨gk,ok',none⟩) nk ck,.int .i64 a,.int .i64 b,.int .i64 c,.int .i64 d,.int .i64 e,.int .i64 W,.int .i64 H,x,r,y] 47)).alloc (.cells #[.int .i64 T,.int .i64 Z,.slice (some ⟨gu,ou,none⟩) N cp] 51)).alloc (.cells #[.int .i64 (k:Int),v,.int .i64 at'] 53)):=(((Kp.refl w).alloc _).alloc _).alloc _
 have s0:cb12 (((w.alloc (.cells #[.slice At nt ct,.slice (some ⟨gk,ok',none⟩) nk ck,.int .i64 a,.int .i64 b,.int .i64 c,.int .i64 d,.int .i64 e,.int .i64 W,.int .i64 H,x,r,y] 47)).alloc (.cells #[.int .i64 T,.int .i64 Z,.slice (some ⟨gu,ou,none⟩) N cp] 51)).alloc (.cells #[.int .i64 (k:Int),v,.int .i64 at'] 53)) (w.heap.size) (.slice At nt ct) (.slice (some ⟨gk,ok',none⟩) nk ck) (.int .i64 a) (.int .i64 b) (.int .i64 c) (.int .i64 d) (.int .i64 e) (.int .i64 W) (.int .i64 H) (x) (r) (y) (cb3 (((w.alloc (.cells #[.slice At nt ct,.slice (some ⟨gk,ok',none⟩) nk ck,.int .i64 a,.int .i64 b,.int .i64 c,.int .i64 d,.int .i64 e,.int .i64 W,.int .i64 H,x,r,y] 47)).alloc (.cells #[.int .i64 T,.int .i64 Z,.slice (some ⟨gu,ou,none⟩) N cp] 51)).alloc (.cells #[.int .i64 (k:Int),v,.int .i64 at'] 53)) (w.heap.size+1) (.int .i64 T) (.int .i64 Z) (.slice (some ⟨gu,ou,none⟩) N cp) (cb3 (((w.alloc (.cells #[.slice At nt ct,.slice (some ⟨gk,ok',none⟩) nk ck,.int .i64 a,.int .i64 b,.int .i64 c,.int .i64 d,.int .i64 e,.int .i64 W,.int .i64 H,x,r,y] 47)).alloc (.cells #[.int .i64 T,.int .i64 Z,.slice (some ⟨gu,ou,none⟩) N cp] 51)).alloc (.cells #[.int .i64 (k:Int),v,.int .i64 at'] 53)) (w.heap.size+1+1) (.int .i64 (k:Int)) (v) (.int .i64 at') ((((w.alloc (.cells #[.slice At nt ct,.slice (some ⟨gk,ok',none⟩) nk ck,.int .i64 a,.int .i64 b,.int .i64 c,.int .i64 d,.int .i64 e,.int .i64 W,.int .i64 H,x,r,y] 47)).alloc (.cells #[.int .i64 T,.int .i64 Z,.slice (some ⟨gu,ou,none⟩) N cp] 51)).alloc (.cells #[.int .i64 (k:Int),v,.int .i64 at'] 53)).cell? ⟨gu,ou+k*4,none⟩=some (.int .i64 sx)∧(((w.alloc (.cells #[.slice At nt ct,.slice (some ⟨gk,ok',none⟩) nk ck,.int .i64 a,.int .i64 b,.int .i64 c,.int .i64 d,.int .i64 e,.int .i64 W,.int .i64 H,x,r,y] 47)).alloc (.cells #[.int .i64 T,.int .i64 Z,.slice (some ⟨gu,ou,none⟩) N cp] 51)).alloc (.cells #[.int .i64 (k:Int),v,.int .i64 at'] 53)).cell? ⟨gu,ou+k*4+1,none⟩=some (.int .i64 (j:Int))∧(((w.alloc (.cells #[.slice At nt ct,.slice (some ⟨gk,ok',none⟩) nk ck,.int .i64 a,.int .i64 b,.int .i64 c,.int .i64 d,.int .i64 e,.int .i64 W,.int .i64 H,x,r,y] 47)).alloc (.cells #[.int .i64 T,.int .i64 Z,.slice (some ⟨gu,ou,none⟩) N cp] 51)).alloc (.cells #[.int .i64 (k:Int),v,.int .i64 at'] 53)).cell? ⟨gu,ou+k*4+2,none⟩=some (.int .i64 ax)∧(((w.alloc (.cells #[.slice At nt ct,.slice (some ⟨gk,ok',none⟩) nk ck,.int .i64 a,.int .i64 b,.int .i64 c,.int .i64 d,.int .i64 e,.int .i64 W,.int .i64 H,x,r,y] 47)).alloc (.cells #[.int .i64 T,.int .i64 Z,.slice (some ⟨gu,ou,none⟩) N cp] 51)).alloc (.cells #[.int .i64 (k:Int),v,.int .i64 at'] 53)).cell? ⟨gu,ou+k*4+3,none⟩=some (.int .i64 tx)∧(((w.alloc (.cells #[.slice At nt ct,.slice (some ⟨gk,ok',none⟩) nk ck,.int .i64 a,.int .i64 b,.int .i64 c,.int .i64 d,.int .i64 e,.int .i64 W,.int .i64 H,x,r,y] 47)).alloc (.cells #[.int .i64 T,.int .i64 Z,.slice (some ⟨gu,ou,none⟩) N cp] 51)).alloc (.cells #[.int .i64 (k:Int),v,.int .i64 at'] 53)).cell? ⟨gk,ok'+j*6+2,none⟩=some (.int .i64 mv)∧Kp w (((w.alloc (.cells #[.slice At nt ct,.slice (some ⟨gk,ok',none⟩) nk ck,.int .i64 a,.int .i64 b,.int .i64 c,.int .i64 d,.int .i64 e,.int .i64 W,.int .i64 H,x,r,y] 47)).alloc (.cells #[.int .i64 T,.int .i64 Z,.slice (some ⟨gu,ou,none⟩) N cp] 51)).alloc (.cells #[.int .i64 (k:Int),v,.int .i64 at'] 53))))):=⟨by simp [go_sem],by simp [go_sem],by simp [go_sem],by simp [go_sem],by simp [go_sem],by simp [go_sem],by simp [go_sem],by simp [go_sem],by simp [go_sem],by simp [go_sem],by simp [go_sem],by simp [go_sem],by simp [go_sem],by simp [go_sem],by simp [go_sem],by simp [go_sem],by simp [go_sem],by simp [go_sem],KA.cell q.1,KA.cell q.2.1,KA.cell q.2.2.1,KA.cell q.2.2.2,KA.cell hmc,KA⟩
 have HB:=Lib.hid hB
 have HS:=Lib.hid hS
 have HP:=Lib.hid hp
 have hk':(k:Int)<N:=by omega
 have hnk:j<nk:=by have:=hB.R.rk.1;omega
 have hnk':(j:Int)<nk:=by omega
 obtain⟨g1,g2,g3,g4⟩:=mapOk_side (brdOk_map hok)
 have CP:=Lib.hid (fun (w:World) hS=>oPlaced_any T Z (.slice (some ⟨gu,ou,none⟩) N cp) us sd (k:Int) w hS ha)
 rw [hg] at CP
 have CC:=Lib.hid (fun (w:World) hB hp q=>oCost_yes At nt nk ct ck l m a b c d e W H x r y lt lr ld T Z us k j sx ax tx gu ou N cp gk ok' at' v p w hB hok hw hp hl hk hj hx q)
 have CE:Hid (goB (stp l lt lr ld W H b c j Z) W ax p=true→∀ w,RdI w v p→(w.cell? ⟨gu,ou+k*4,none⟩=some (.int .i64 sx)∧w.cell? ⟨gu,ou+k*4+1,none⟩=some (.int .i64 (j:Int))∧w.cell? ⟨gu,ou+k*4+2,none⟩=some (.int .i64 ax)∧w.cell? ⟨gu,ou+k*4+3,none⟩=some (.int .i64 tx))→Calls Tryz.prog 86 #[bv (.slice At nt ct) (.slice (some ⟨gk,ok',none⟩) nk ck) a b c d e W H x r y,sv T Z (.slice (some ⟨gu,ou,none⟩) N cp),.agg #[.int .i64 (k:Int),v,.int .i64 at']] w fun e' w'=>e'=.returned (.int .i64 (endP W ax p))∧Kp w w'):=Lib.hid fun hgo w hp q=>oEnd_yes At nt nk ct ck l m a b c d e W H x r y lt lr ld T Z us k j sx ax tx gu ou N cp gk ok' at' v p w hok hp hk hx q hgo
 have HON:Hid (goB (stp l lt lr ld W H b c j Z) W ax p=true→onI W H (endP W ax p)=true):=Lib.hid fun h=>wlk_on step_nb p ax hx (goB_pth h).2
 have HSM:Hid (0≤sumL (cstP (stp l lt lr ld W H b c j Z) W ax p)):=Lib.hid (sumL_bd (B:=20) (by omega) _ (cstP_bd (W:=W) (stp_bd hok hj hw) p ax)).1
 generalize sumL (cstP (stp l lt lr ld W H b c j Z) W ax p)=R at CC HSM hmo ⊢
 generalize endP W ax p=E at CE HON ⊢
 clear hB hS hok hw hp hl hj hx q hmc ha hg
 rw [hgo,if_pos rfl] at CC
 have hsm:=HSM.out
 have hR0:¬ R<0:=by omega
 clear CE HON HSM hgo
 go_enter Tryz.func64,Tryz.ntmps64
 go_wp2_with fail
 refine(CP.out _ (HS.out.keep s0.2.2.2.2.2.2.2.2.2.2.2.2.2.2.2.2.2.2.2.2.2.2.2)).mono ?_
 rintro e1 w1 ⟨rfl,k1⟩
 have s1:=keepe23 k1 s0
 clear s0 k1
 go_wp2_with fail
 refine(CC.out _ (HB.out.keep s1.2.2.2.2.2.2.2.2.2.2.2.2.2.2.2.2.2.2.2.2.2.2.2) (HP.out.keep s1.2.2.2.2.2.2.2.2.2.2.2.2.2.2.2.2.2.2.2.2.2.2.2) ⟨s1.2.2.2.2.2.2.2.2.2.2.2.2.2.2.2.2.2.2.1,s1.2.2.2.2.2.2.2.2.2.2.2.2.2.2.2.2.2.2.2.1,s1.2.2.2.2.2.2.2.2.2.2.2.2.2.2.2.2.2.2.2.2.1,s1.2.2.2.2.2.2.2.2.2.2.2.2.2.2.2.2.2.2.2.2.2.1⟩).mono ?_
 rintro e2 w2 ⟨rfl,k2⟩
 have s2:=keepe23 k2 s1
 clear s1 k2
 go_upto_region 6 with (fail)
 have s3:=drewe23 s2
 clear s2
 refine wp_region_held_drew (S:=(fun w'=>cb12 w' (w.heap.size) (.slice At nt ct) (.slice (some ⟨gk,ok',none⟩) nk ck) (.int .i64 a) (.int .i64 b) (.int .i64 c) (.int .i64 d) (.int .i64 e) (.int .i64 W) (.int .i64 H) (x) (r) (y) (cb3 w' (w.heap.size+1) (.int .i64 T) (.int .i64 Z) (.slice (some ⟨gu,ou,none⟩) N cp) (cb3 w' (w.heap.size+1+1) (.int .i64 (k:Int)) (v) (.int .i64 at') (w'.cell? ⟨gu,ou+k*4,none⟩=some (.int .i64 sx)∧w'.cell? ⟨gu,ou+k*4+1,none⟩=some (.int .i64 (j:Int))∧w'.cell? ⟨gu,ou+k*4+2,none⟩=some (.int .i64 ax)∧w'.cell? ⟨gu,ou+k*4+3,none⟩=some (.int .i64 tx)∧w'.cell? ⟨gk,ok'+j*6+2,none⟩=some (.int .i64 mv)∧Kp w w'))))) (by kernel_rfl) ?_ (fun hHeld=>?_)
 ·exact s3
 refine tk 0 ⟨some 26,_,_,_,_,_⟩ ?_ rfl (by kernel_rfl) (fun _ _ _ h=>h) (by rfl) ?_ (by assumption) ?_
 rotate_left
 ·intro w hSw;(try dsimp only at hSw);go_simp;(all_goals with_reducible rfl)
 simp only [Act.put,sA,sB,sC]
 refine tk 1 ⟨some 27,_,_,_,_,_⟩ ?_ rfl (by kernel_rfl) (fun _ _ _ h=>h) (by rfl) ?_ (by assumption) ?_
 rotate_left
 ·intro w hSw;(try dsimp only at hSw);go_simp;(all_goals with_reducible rfl)
 simp only [Act.put,sA,sB,sC]
 refine tk 2 ⟨some 28,_,_,_,_,_⟩ ?_ rfl (by kernel_rfl) (fun _ _ _ h=>h) (by rfl) ?_ (by assumption) ?_
 rotate_left
 ·intro w hSw;(try dsimp only at hSw);go_simp;(all_goals with_reducible rfl)
 simp only [Act.put,sA,sB,sC]
 refine tk 3 ⟨some 29,_,_,_,_,_⟩ ?_ rfl (by kernel_rfl) (fun _ _ _ h=>h) (by rfl) ?_ (by assumption) ?_
 rotate_left
 ·intro w hSw;(try dsimp only at hSw);go_simp;(all_goals with_reducible rfl)
 simp only [Act.put,sA,sB,sC]
 refine tk 4 ⟨some 30,_,_,_,_,_⟩ ?_ rfl (by kernel_rfl) (fun _ _ _ h=>h) (by rfl) ?_ (by assumption) ?_
 rotate_left
 ·intro w hSw;(try dsimp only at hSw);go_simp;(all_goals with_reducible rfl)
 simp only [Act.put,sA,sB,sC]
 refine tk 5 ⟨some 31,_,_,_,_,_⟩ ?_ rfl (by kernel_rfl) (fun _ _ _ h=>h) (by rfl) ?_ (by assumption) ?_
 rotate_left
 ·intro w hSw;(try dsimp only at hSw);go_simp;(all_goals with_reducible rfl)
 simp only [Act.put,sA,sB,sC]
 refine tk 6 ⟨some 32,_,_,_,_,_⟩ ?_ rfl (by kernel_rfl) (fun _ _ _ h=>h) (by rfl) ?_ (by assumption) ?_
 rotate_left
 ·intro w hSw;(try dsimp only at hSw);go_simp;(all_goals with_reducible rfl)
 simp only [Act.put,sA,sB,sC]
 refine tk 7 ⟨some 33,_,_,_,_,_⟩ ?_ rfl (by kernel_rfl) (fun _ _ _ h=>h) (by rfl) ?_ (by assumption) ?_
 rotate_left
 ·intro w hSw;(try dsimp only at hSw);go_simp;(all_goals with_reducible rfl)
 simp only [Act.put,sA,sB,sC]
 refine tk 8 ⟨some 34,_,_,_,_,_⟩ ?_ rfl (by kernel_rfl) (fun _ _ _ h=>h) (by rfl) ?_ (by assumption) ?_
 rotate_left
 ·intro w hSw;(try dsimp only at hSw);go_simp;(all_goals with_reducible rfl)
 simp only [Act.put,sA,sB,sC]
 refine tk 9 ⟨some 35,_,_,_,_,_⟩ ?_ rfl (by kernel_rfl) (fun _ _ _ h=>h) (by rfl) ?_ (by assumption) ?_
 rotate_left
 ·intro w hSw;(try dsimp only at hSw);go_simp;(all_goals with_reducible rfl)
 simp only [Act.put,sA,sB,sC]
 refine tk 10 ⟨some 36,_,_,_,_,_⟩ ?_ rfl (by kernel_rfl) (fun _ _ _ h=>h) (by rfl) ?_ (by assumption) ?_
 rotate_left
 ·intro w hSw;(try dsimp only at hSw);go_simp;(all_goals with_reducible rfl)
 simp only [Act.put,sA,sB,sC]
 refine tk 11 ⟨some 37,_,_,_,_,_⟩ ?_ rfl (by kernel_rfl) (fun _ _ _ h=>h) (by rfl) ?_ (by assumption) ?_
 rotate_left
 ·intro w hSw;(try dsimp only at hSw);go_simp;(all_goals with_reducible rfl)
 simp only [Act.put,sA,sB,sC]
 refine tk 12 ⟨some 38,_,_,_,_,_⟩ ?_ rfl (by kernel_rfl) (fun _ _ _ h=>h) (by rfl) ?_ (by assumption) ?_
 rotate_left
 ·intro w hSw;(try dsimp only at hSw);go_simp;(all_goals with_reducible rfl)
 simp only [Act.put,sA,sB,sC]
 refine tk 13 ⟨some 39,_,_,_,_,_⟩ ?_ rfl (by kernel_rfl) (fun _ _ _ h=>h) (by rfl) ?_ (by assumption) ?_
 rotate_left
 ·intro w hSw;(try dsimp only at hSw);go_simp;(all_goals with_reducible rfl)
 simp only [Act.put,sA,sB,sC]
 refine tk 14 ⟨some 40,_,_,_,_,_⟩ ?_ rfl (by kernel_rfl) (fun _ _ _ h=>h) (by rfl) ?_ (by assumption) ?_
 rotate_left
 ·intro w hSw;(try dsimp only at hSw);go_simp;(all_goals with_reducible rfl)
 simp only [Act.put,sA,sB,sC]
 refine tk 15 ⟨some 25,_,_,_,_,_⟩ ?_ rfl (by kernel_rfl) (fun _ _ _ h=>h) (by rfl) ?_ (by assumption) ?_
 rotate_left
 ·intro w hSw;(try dsimp only at hSw);go_simp;(all_goals with_reducible rfl)
 simp only [Act.put,sA,sB,sC]
 refine wpAnyH_done (by kernel_rfl) ?_ _
 go_wp2_with fail
 go_ret
 exact⟨rfl,hHeld.2.2.2.2.2.2.2.2.2.2.2.2.2.2.2.2.2.2.2.2.2.2.2⟩
set_option maxRecDepth 100000 in
set_option maxHeartbeats 4000000 in
theorem oFault_yc (At:Option Addr) (nt nk ct ck:Nat) (l:List Ter) (m:List Knd) (a b c d e W H:Int) (x r y:Value) (lt lr ld:List Int) (T Z:Int) (us:List Uni) (k j:Nat) (sx ax tx:Int) (gu ou N cp gk ok':Nat) (sd at' mv:Int) (v:Value) (p:List Int) (w:World) (hB:BrdAt w At (some ⟨gk,ok',none⟩) nt nk l m x r y lt lr ld) (hS:StaAt w (.slice (some ⟨gu,ou,none⟩) N cp) us) (hok:brdOk ⟨l,m,a,b,c,d,e⟩ W H lt lr ld=true) (hw:Z=0∨Z=1∨Z=2) (hp:RdI w v p) (hl:p.length≤1048576) (hk:k<N) (hj:j<m.length) (hx:onI W H ax=true) (q:w.cell? ⟨gu,ou+k*4,none⟩=some (.int .i64 sx)∧w.cell? ⟨gu,ou+k*4+1,none⟩=some (.int .i64 (j:Int))∧w.cell? ⟨gu,ou+k*4+2,none⟩=some (.int .i64 ax)∧w.cell? ⟨gu,ou+k*4+3,none⟩=some (.int .i64 tx)) (hmc:w.cell? ⟨gk,ok'+j*6+2,none⟩=some (.int .i64 mv)) (ha:∀ z ∈ us,z.a=-1∨0≤z.a) (hg:plcB us sd (k:Int)=true) (hgo:goB (stp l lt lr ld W H b c j Z) W ax p=true) (hmo:¬ mv<sumL (cstP (stp l lt lr ld W H b c j Z) W ax p)) (hat:at'=-1) :
  Calls Tryz.prog 64 #[bv (.slice At nt ct) (.slice (some ⟨gk,ok',none⟩) nk ck) a b c d e W H x r y,sv T Z (.slice (some ⟨gu,ou,none⟩) N cp),.int .i64 sd,.agg #[.int .i64 (k:Int),v,.int .i64 at']] w fun e' w'=>e'=.returned (.int .i64 0)∧Kp w w':=by
 have KA:Kp w (((w.alloc (.cells #[.slice At nt ct,.slice (some ⟨gk,ok',none⟩) nk ck,.int .i64 a,.int .i64 b,.int .i64 c,.int .i64 d,.int .i64 e,.int .i64 W,.int .i64 H,x,r,y] 47)).alloc (.cells #[.int .i64 T,.int .i64 Z,.slice (some ⟨gu,ou,none⟩) N cp] 51)).alloc (.cells #[.int .i64 (k:Int),v,.int .i64 at'] 53)):=(((Kp.refl w).alloc _).alloc _).alloc _
 have s0:cb12 (((w.alloc (.cells #[.slice At nt ct,.slice (some ⟨gk,ok',none⟩) nk ck,.int .i64 a,.int .i64 b,.int .i64 c,.int .i64 d,.int .i64 e,.int .i64 W,.int .i64 H,x,r,y] 47)).alloc (.cells #[.int .i64 T,.int .i64 Z,.slice (some ⟨gu,ou,none⟩) N cp] 51)).alloc (.cells #[.int .i64 (k:Int),v,.int .i64 at'] 53)) (w.heap.size) (.slice At nt ct) (.slice (some ⟨gk,ok',none⟩) nk ck) (.int .i64 a) (.int .i64 b) (.int .i64 c) (.int .i64 d) (.int .i64 e) (.int .i64 W) (.int .i64 H) (x) (r) (y) (cb3 (((w.alloc (.cells #[.slice At nt ct,.slice (some ⟨gk,ok',none⟩) nk ck,.int .i64 a,.int .i64 b,.int .i64 c,.int .i64 d,.int .i64 e,.int .i64 W,.int .i64 H,x,r,y] 47)).alloc (.cells #[.int .i64 T,.int .i64 Z,.slice (some ⟨gu,ou,none⟩) N cp] 51)).alloc (.cells #[.int .i64 (k:Int),v,.int .i64 at'] 53)) (w.heap.size+1) (.int .i64 T) (.int .i64 Z) (.slice (some ⟨gu,ou,none⟩) N cp) (cb3 (((w.alloc (.cells #[.slice At nt ct,.slice (some ⟨gk,ok',none⟩) nk ck,.int .i64 a,.int .i64 b,.int .i64 c,.int .i64 d,.int .i64 e,.int .i64 W,.int .i64 H,x,r,y] 47)).alloc (.cells #[.int .i64 T,.int .i64 Z,.slice (some ⟨gu,ou,none⟩) N cp] 51)).alloc (.cells #[.int .i64 (k:Int),v,.int .i64 at'] 53)) (w.heap.size+1+1) (.int .i64 (k:Int)) (v) (.int .i64 at') ((((w.alloc (.cells #[.slice At nt ct,.slice (some ⟨gk,ok',none⟩) nk ck,.int .i64 a,.int .i64 b,.int .i64 c,.int .i64 d,.int .i64 e,.int .i64 W,.int .i64 H,x,r,y] 47)).alloc (.cells #[.int .i64 T,.int .i64 Z,.slice (some ⟨gu,ou,none⟩) N cp] 51)).alloc (.cells #[.int .i64 (k:Int),v,.int .i64 at'] 53)).cell? ⟨gu,ou+k*4,none⟩=some (.int .i64 sx)∧(((w.alloc (.cells #[.slice At nt ct,.slice (some ⟨gk,ok',none⟩) nk ck,.int .i64 a,.int .i64 b,.int .i64 c,.int .i64 d,.int .i64 e,.int .i64 W,.int .i64 H,x,r,y] 47)).alloc (.cells #[.int .i64 T,.int .i64 Z,.slice (some ⟨gu,ou,none⟩) N cp] 51)).alloc (.cells #[.int .i64 (k:Int),v,.int .i64 at'] 53)).cell? ⟨gu,ou+k*4+1,none⟩=some (.int .i64 (j:Int))∧(((w.alloc (.cells #[.slice At nt ct,.slice (some ⟨gk,ok',none⟩) nk ck,.int .i64 a,.int .i64 b,.int .i64 c,.int .i64 d,.int .i64 e,.int .i64 W,.int .i64 H,x,r,y] 47)).alloc (.cells #[.int .i64 T,.int .i64 Z,.slice (some ⟨gu,ou,none⟩) N cp] 51)).alloc (.cells #[.int .i64 (k:Int),v,.int .i64 at'] 53)).cell? ⟨gu,ou+k*4+2,none⟩=some (.int .i64 ax)∧(((w.alloc (.cells #[.slice At nt ct,.slice (some ⟨gk,ok',none⟩) nk ck,.int .i64 a,.int .i64 b,.int .i64 c,.int .i64 d,.int .i64 e,.int .i64 W,.int .i64 H,x,r,y] 47)).alloc (.cells #[.int .i64 T,.int .i64 Z,.slice (some ⟨gu,ou,none⟩) N cp] 51)).alloc (.cells #[.int .i64 (k:Int),v,.int .i64 at'] 53)).cell? ⟨gu,ou+k*4+3,none⟩=some (.int .i64 tx)∧(((w.alloc (.cells #[.slice At nt ct,.slice (some ⟨gk,ok',none⟩) nk ck,.int .i64 a,.int .i64 b,.int .i64 c,.int .i64 d,.int .i64 e,.int .i64 W,.int .i64 H,x,r,y] 47)).alloc (.cells #[.int .i64 T,.int .i64 Z,.slice (some ⟨gu,ou,none⟩) N cp] 51)).alloc (.cells #[.int .i64 (k:Int),v,.int .i64 at'] 53)).cell? ⟨gk,ok'+j*6+2,none⟩=some (.int .i64 mv)∧Kp w (((w.alloc (.cells #[.slice At nt ct,.slice (some ⟨gk,ok',none⟩) nk ck,.int .i64 a,.int .i64 b,.int .i64 c,.int .i64 d,.int .i64 e,.int .i64 W,.int .i64 H,x,r,y] 47)).alloc (.cells #[.int .i64 T,.int .i64 Z,.slice (some ⟨gu,ou,none⟩) N cp] 51)).alloc (.cells #[.int .i64 (k:Int),v,.int .i64 at'] 53))))):=⟨by simp [go_sem],by simp [go_sem],by simp [go_sem],by simp [go_sem],by simp [go_sem],by simp [go_sem],by simp [go_sem],by simp [go_sem],by simp [go_sem],by simp [go_sem],by simp [go_sem],by simp [go_sem],by simp [go_sem],by simp [go_sem],by simp [go_sem],by simp [go_sem],by simp [go_sem],by simp [go_sem],KA.cell q.1,KA.cell q.2.1,KA.cell q.2.2.1,KA.cell q.2.2.2,KA.cell hmc,KA⟩
 have HB:=Lib.hid hB
 have HS:=Lib.hid hS
 have HP:=Lib.hid hp
 have hk':(k:Int)<N:=by omega
 have hnk:j<nk:=by have:=hB.R.rk.1;omega
 have hnk':(j:Int)<nk:=by omega
 obtain⟨g1,g2,g3,g4⟩:=mapOk_side (brdOk_map hok)
 have CP:=Lib.hid (fun (w:World) hS=>oPlaced_any T Z (.slice (some ⟨gu,ou,none⟩) N cp) us sd (k:Int) w hS ha)
 rw [hg] at CP
 have CC:=Lib.hid (fun (w:World) hB hp q=>oCost_yes At nt nk ct ck l m a b c d e W H x r y lt lr ld T Z us k j sx ax tx gu ou N cp gk ok' at' v p w hB hok hw hp hl hk hj hx q)
 have CE:Hid (goB (stp l lt lr ld W H b c j Z) W ax p=true→∀ w,RdI w v p→(w.cell? ⟨gu,ou+k*4,none⟩=some (.int .i64 sx)∧w.cell? ⟨gu,ou+k*4+1,none⟩=some (.int .i64 (j:Int))∧w.cell? ⟨gu,ou+k*4+2,none⟩=some (.int .i64 ax)∧w.cell? ⟨gu,ou+k*4+3,none⟩=some (.int .i64 tx))→Calls Tryz.prog 86 #[bv (.slice At nt ct) (.slice (some ⟨gk,ok',none⟩) nk ck) a b c d e W H x r y,sv T Z (.slice (some ⟨gu,ou,none⟩) N cp),.agg #[.int .i64 (k:Int),v,.int .i64 at']] w fun e' w'=>e'=.returned (.int .i64 (endP W ax p))∧Kp w w'):=Lib.hid fun hgo w hp q=>oEnd_yes At nt nk ct ck l m a b c d e W H x r y lt lr ld T Z us k j sx ax tx gu ou N cp gk ok' at' v p w hok hp hk hx q hgo
 have HON:Hid (goB (stp l lt lr ld W H b c j Z) W ax p=true→onI W H (endP W ax p)=true):=Lib.hid fun h=>wlk_on step_nb p ax hx (goB_pth h).2
 have HSM:Hid (0≤sumL (cstP (stp l lt lr ld W H b c j Z) W ax p)):=Lib.hid (sumL_bd (B:=20) (by omega) _ (cstP_bd (W:=W) (stp_bd hok hj hw) p ax)).1
 generalize sumL (cstP (stp l lt lr ld W H b c j Z) W ax p)=R at CC HSM hmo ⊢
 generalize endP W ax p=E at CE HON ⊢
 clear hB hS hok hw hp hl hj hx q hmc ha hg
 rw [hgo,if_pos rfl] at CC
 have hsm:=HSM.out
 have hR0:¬ R<0:=by omega
 have hd:(at' == -1)=true:=by simpa using hat
 clear CE HON HSM hgo hat
 go_enter Tryz.func64,Tryz.ntmps64
 go_wp2_with fail
 refine(CP.out _ (HS.out.keep s0.2.2.2.2.2.2.2.2.2.2.2.2.2.2.2.2.2.2.2.2.2.2.2)).mono ?_
 rintro e1 w1 ⟨rfl,k1⟩
 have s1:=keepe23 k1 s0
 clear s0 k1
 go_wp2_with fail
 refine(CC.out _ (HB.out.keep s1.2.2.2.2.2.2.2.2.2.2.2.2.2.2.2.2.2.2.2.2.2.2.2) (HP.out.keep s1.2.2.2.2.2.2.2.2.2.2.2.2.2.2.2.2.2.2.2.2.2.2.2) ⟨s1.2.2.2.2.2.2.2.2.2.2.2.2.2.2.2.2.2.2.1,s1.2.2.2.2.2.2.2.2.2.2.2.2.2.2.2.2.2.2.2.1,s1.2.2.2.2.2.2.2.2.2.2.2.2.2.2.2.2.2.2.2.2.1,s1.2.2.2.2.2.2.2.2.2.2.2.2.2.2.2.2.2.2.2.2.2.1⟩).mono ?_
 rintro e2 w2 ⟨rfl,k2⟩
 have s2:=keepe23 k2 s1
 clear s1 k2
 go_upto_region 6 with (fail)
 have s3:=drewe23 s2
 clear s2
 refine wp_region_held_drew (S:=(fun w'=>cb12 w' (w.heap.size) (.slice At nt ct) (.slice (some ⟨gk,ok',none⟩) nk ck) (.int .i64 a) (.int .i64 b) (.int .i64 c) (.int .i64 d) (.int .i64 e) (.int .i64 W) (.int .i64 H) (x) (r) (y) (cb3 w' (w.heap.size+1) (.int .i64 T) (.int .i64 Z) (.slice (some ⟨gu,ou,none⟩) N cp) (cb3 w' (w.heap.size+1+1) (.int .i64 (k:Int)) (v) (.int .i64 at') (w'.cell? ⟨gu,ou+k*4,none⟩=some (.int .i64 sx)∧w'.cell? ⟨gu,ou+k*4+1,none⟩=some (.int .i64 (j:Int))∧w'.cell? ⟨gu,ou+k*4+2,none⟩=some (.int .i64 ax)∧w'.cell? ⟨gu,ou+k*4+3,none⟩=some (.int .i64 tx)∧w'.cell? ⟨gk,ok'+j*6+2,none⟩=some (.int .i64 mv)∧Kp w w'))))) (by kernel_rfl) ?_ (fun hHeld=>?_)
 ·exact s3
 refine tk 0 ⟨some 26,_,_,_,_,_⟩ ?_ rfl (by kernel_rfl) (fun _ _ _ h=>h) (by rfl) ?_ (by assumption) ?_
 rotate_left
 ·intro w hSw;(try dsimp only at hSw);go_simp;(all_goals with_reducible rfl)
 simp only [Act.put,sA,sB,sC]
 refine tk 1 ⟨some 27,_,_,_,_,_⟩ ?_ rfl (by kernel_rfl) (fun _ _ _ h=>h) (by rfl) ?_ (by assumption) ?_
 rotate_left
 ·intro w hSw;(try dsimp only at hSw);go_simp;(all_goals with_reducible rfl)
 simp only [Act.put,sA,sB,sC]
 refine tk 2 ⟨some 28,_,_,_,_,_⟩ ?_ rfl (by kernel_rfl) (fun _ _ _ h=>h) (by rfl) ?_ (by assumption) ?_
 rotate_left
 ·intro w hSw;(try dsimp only at hSw);go_simp;(all_goals with_reducible rfl)
 simp only [Act.put,sA,sB,sC]
 refine tk 3 ⟨some 29,_,_,_,_,_⟩ ?_ rfl (by kernel_rfl) (fun _ _ _ h=>h) (by rfl) ?_ (by assumption) ?_
 rotate_left
 ·intro w hSw;(try dsimp only at hSw);go_simp;(all_goals with_reducible rfl)
 simp only [Act.put,sA,sB,sC]
 refine tk 4 ⟨some 30,_,_,_,_,_⟩ ?_ rfl (by kernel_rfl) (fun _ _ _ h=>h) (by rfl) ?_ (by assumption) ?_
 rotate_left
 ·intro w hSw;(try dsimp only at hSw);go_simp;(all_goals with_reducible rfl)
 simp only [Act.put,sA,sB,sC]
 refine tk 5 ⟨some 31,_,_,_,_,_⟩ ?_ rfl (by kernel_rfl) (fun _ _ _ h=>h) (by rfl) ?_ (by assumption) ?_
 rotate_left
 ·intro w hSw;(try dsimp only at hSw);go_simp;(all_goals with_reducible rfl)
 simp only [Act.put,sA,sB,sC]
 refine tk 6 ⟨some 32,_,_,_,_,_⟩ ?_ rfl (by kernel_rfl) (fun _ _ _ h=>h) (by rfl) ?_ (by assumption) ?_
 rotate_left
 ·intro w hSw;(try dsimp only at hSw);go_simp;(all_goals with_reducible rfl)
 simp only [Act.put,sA,sB,sC]
 refine tk 7 ⟨some 33,_,_,_,_,_⟩ ?_ rfl (by kernel_rfl) (fun _ _ _ h=>h) (by rfl) ?_ (by assumption) ?_
 rotate_left
 ·intro w hSw;(try dsimp only at hSw);go_simp;(all_goals with_reducible rfl)
 simp only [Act.put,sA,sB,sC]
 refine tk 8 ⟨some 34,_,_,_,_,_⟩ ?_ rfl (by kernel_rfl) (fun _ _ _ h=>h) (by rfl) ?_ (by assumption) ?_
 rotate_left
 ·intro w hSw;(try dsimp only at hSw);go_simp;(all_goals with_reducible rfl)
 simp only [Act.put,sA,sB,sC]
 refine tk 9 ⟨some 35,_,_,_,_,_⟩ ?_ rfl (by kernel_rfl) (fun _ _ _ h=>h) (by rfl) ?_ (by assumption) ?_
 rotate_left
 ·intro w hSw;(try dsimp only at hSw);go_simp;(all_goals with_reducible rfl)
 simp only [Act.put,sA,sB,sC]
 refine tk 10 ⟨some 36,_,_,_,_,_⟩ ?_ rfl (by kernel_rfl) (fun _ _ _ h=>h) (by rfl) ?_ (by assumption) ?_
 rotate_left
 ·intro w hSw;(try dsimp only at hSw);go_simp;(all_goals with_reducible rfl)
 simp only [Act.put,sA,sB,sC]
 refine tk 11 ⟨some 37,_,_,_,_,_⟩ ?_ rfl (by kernel_rfl) (fun _ _ _ h=>h) (by rfl) ?_ (by assumption) ?_
 rotate_left
 ·intro w hSw;(try dsimp only at hSw);go_simp;(all_goals with_reducible rfl)
 simp only [Act.put,sA,sB,sC]
 refine tk 12 ⟨some 38,_,_,_,_,_⟩ ?_ rfl (by kernel_rfl) (fun _ _ _ h=>h) (by rfl) ?_ (by assumption) ?_
 rotate_left
 ·intro w hSw;(try dsimp only at hSw);go_simp;(all_goals with_reducible rfl)
 simp only [Act.put,sA,sB,sC]
 refine tk 13 ⟨some 39,_,_,_,_,_⟩ ?_ rfl (by kernel_rfl) (fun _ _ _ h=>h) (by rfl) ?_ (by assumption) ?_
 rotate_left
 ·intro w hSw;(try dsimp only at hSw);go_simp;(all_goals with_reducible rfl)
 simp only [Act.put,sA,sB,sC]
 refine tk 14 ⟨some 40,_,_,_,_,_⟩ ?_ rfl (by kernel_rfl) (fun _ _ _ h=>h) (by rfl) ?_ (by assumption) ?_
 rotate_left
 ·intro w hSw;(try dsimp only at hSw);go_simp;(all_goals with_reducible rfl)
 simp only [Act.put,sA,sB,sC]
 refine tk 15 ⟨some 25,_,_,_,_,_⟩ ?_ rfl (by kernel_rfl) (fun _ _ _ h=>h) (by rfl) ?_ (by assumption) ?_
 rotate_left
 ·intro w hSw;(try dsimp only at hSw);go_simp;(all_goals with_reducible rfl)
 simp only [Act.put,sA,sB,sC]
 refine wpAnyH_done (by kernel_rfl) ?_ _
 go_wp2_with fail
 go_ret
 exact⟨rfl,hHeld.2.2.2.2.2.2.2.2.2.2.2.2.2.2.2.2.2.2.2.2.2.2.2⟩
end Go.Proofs.YtacgknllagdkoaaGreatDoor
