/-
 The code of an order, of the reference: its cases. Nothing that was there is changed.
-/
import Derived.Test.YtacgknllagdkoaaGreatDoorOrS
import Derived.StillTailTactics
import Derived.Deep.Cut
import Derived.Maps.AppendAt
import Derived.Test.YtacgknllagdkoaaGreatDoorQa
import Derived.Test.YtacgknllagdkoaaGreatDoorQa
namespace Go.Proofs.YtacgknllagdkoaaGreatDoor
open Go.RowKit
set_option maxRecDepth 100000 in
set_option maxHeartbeats 4000000 in
theorem oFault_yd (At:Option Addr) (nt nk ct ck:Nat) (l:List Ter) (m:List Knd) (a b c d e W H:Int) (x r y:Value) (lt lr ld:List Int) (T Z:Int) (us:List Uni) (k j:Nat) (sx ax tx:Int) (gu ou N cp gk ok':Nat) (sd at' mv:Int) (v:Value) (p:List Int) (w:World) (hB:BrdAt w At (some ⟨gk,ok',none⟩) nt nk l m x r y lt lr ld) (hS:StaAt w (.slice (some ⟨gu,ou,none⟩) N cp) us) (hok:brdOk ⟨l,m,a,b,c,d,e⟩ W H lt lr ld=true) (hw:Z=0∨Z=1∨Z=2) (hp:RdI w v p) (hl:p.length≤1048576) (hk:k<N) (hj:j<m.length) (hx:onI W H ax=true) (q:w.cell? ⟨gu,ou+k*4,none⟩=some (.int .i64 sx)∧w.cell? ⟨gu,ou+k*4+1,none⟩=some (.int .i64 (j:Int))∧w.cell? ⟨gu,ou+k*4+2,none⟩=some (.int .i64 ax)∧w.cell? ⟨gu,ou+k*4+3,none⟩=some (.int .i64 tx)) (hmc:w.cell? ⟨gk,ok'+j*6+2,none⟩=some (.int .i64 mv)) (ha:∀ z ∈ us,z.a=-1∨0≤z.a) (hg:plcB us sd (k:Int)=true) (hgo:goB (stp l lt lr ld W H b c j Z) W ax p=true) (hmo:¬ mv<sumL (cstP (stp l lt lr ld W H b c j Z) W ax p)) (hat:at' ≠ -1) :
  Calls Tryz.prog 64 #[bv (.slice At nt ct) (.slice (some ⟨gk,ok',none⟩) nk ck) a b c d e W H x r y,sv T Z (.slice (some ⟨gu,ou,none⟩) N cp),.int .i64 sd,.agg #[.int .i64 (k:Int),v,.int .i64 at']] w fun e' w'=>e'=.returned (.int .i64 (if hasB (ints (nbT W H (endP W ax p).toNat 6)) at'=true then 0 else 5))∧Kp w w':=by
 have KA:Kp w (((w.alloc (.cells #[.slice At nt ct,.slice (some ⟨gk,ok',none⟩) nk ck,.int .i64 a,.int .i64 b,.int .i64 c,.int .i64 d,.int .i64 e,.int .i64 W,.int .i64 H,x,r,y] 47)).alloc (.cells #[.int .i64 T,.int .i64 Z,.slice (some ⟨gu,ou,none⟩) N cp] 51)).alloc (.cells #[.int .i64 (k:Int),v,.int .i64 at'] 53)):=(((Kp.refl w).alloc _).alloc _).alloc _
 have s0:cb12 (((w.alloc (.cells #[.slice At nt ct,.slice (some ⟨gk,ok',none⟩) nk ck,.int .i64 a,.int .i64 b,.int .i64 c,.int .i64 d,.int .i64 e,.int .i64 W,.int .i64 H,x,r,y] 47)).alloc (.cells #[.int .i64 T,.int .i64 Z,.slice (some ⟨gu,ou,none⟩) N cp] 51)).alloc (.cells #[.int .i64 (k:Int),v,.int .i64 at'] 53)) (w.heap.size) (.slice At nt ct) (.slice (some ⟨gk,ok',none⟩) nk ck) (.int .i64 a) (.int .i64 b) (.int .i64 c) (.int .i64 d) (.int .i64 e) (.int .i64 W) (.int .i64 H) (x) (r) (y) (cb3 (((w.alloc (.cells #[.slice At nt ct,.slice (some ⟨gk,ok',none⟩) nk ck,.int .i64 a,.int .i64 b,.int .i64 c,.int .i64 d,.int .i64 e,.int .i64 W,.int .i64 H,x,r,y] 47)).alloc (.cells #[.int .i64 T,.int .i64 Z,.slice (some ⟨gu,ou,none⟩) N cp] 51)).alloc (.cells #[.int .i64 (k:Int),v,.int .i64 at'] 53)) (w.heap.size+1) (.int .i64 T) (.int .i64 Z) (.slice (some ⟨gu,ou,none⟩) N cp) (cb3 (((w.alloc (.cells #[.slice At nt ct,.slice (some ⟨gk,ok',none⟩) nk ck,.int .i64 a,.int .i64 b,.int .i64 c,.int .i64 d,.int .i64 e,.int .i64 W,.int .i64 H,x,r,y] 47)).alloc (.cells #[.int .i64 T,.int .i64 Z,.slice (some ⟨gu,ou,none⟩) N cp] 51)).alloc (.cells #[.int .i64 (k:Int),v,.int .i64 at'] 53)) (w.heap.size+1+1) (.int .i64 (k:Int)) (v) (.int .i64 at') ((((w.alloc (.cells #[.slice At nt ct,.slice (some ⟨gk,ok',none⟩) nk ck,.int .i64 a,.int .i64 b,.int .i64 c,.int .i64 d,.int .i64 e,.int .i64 W,.int .i64 H,x,r,y] 47)).alloc (.cells #[.int .i64 T,.int .i64 Z,.slice (some ⟨gu,ou,none⟩) N cp] 51)).alloc (.cells #[.int .i64 (k:Int),v,.int .i64 at'] 53)).cell? ⟨gu,ou+k*4,none⟩=some (.int .i64 sx)∧(((w.alloc (.cells #[.slice At nt ct,.slice (some ⟨gk,ok',none⟩) nk ck,.int .i64 a,.int .i64 b,.int .i64 c,.int .i64 d,.int .i64 e,.int .i64 W,.int .i64 H,x,r,y] 47)).alloc (.cells #[.int .i64 T,.int .i64 Z,.slice (some ⟨gu,ou,none⟩) N cp] 51)).alloc (.cells #[.int .i64 (k:Int),v,.int .i64 at'] 53)).cell? ⟨gu,ou+k*4+1,none⟩=some (.int .i64 (j:Int))∧(((w.alloc (.cells #[.slice At nt ct,.slice (some ⟨gk,ok',none⟩) nk ck,.int .i64 a,.int .i64 b,.int .i64 c,.int .i64 d,.int .i64 e,.int .i64 W,.int .i64 H,x,r,y] 47)).alloc (.cells #[.int .i64 T,.int .i64 Z,.slice (some ⟨gu,ou,none⟩) N cp] 51)).alloc (.cells #[.int .i64 (k:Int),v,.int .i64 at'] 53)).cell? ⟨gu,ou+k*4+2,none⟩=some (.int .i64 ax)∧(((w.alloc (.cells #[.slice At nt ct,.slice (some ⟨gk,ok',none⟩) nk ck,.int .i64 a,.int .i64 b,.int .i64 c,.int .i64 d,.int .i64 e,.int .i64 W,.int .i64 H,x,r,y] 47)).alloc (.cells #[.int .i64 T,.int .i64 Z,.slice (some ⟨gu,ou,none⟩) N cp] 51)).alloc (.cells #[.int .i64 (k:Int),v,.int .i64 at'] 53)).cell? ⟨gu,ou+k*4+3,none⟩=some (.int .i64 tx)∧(((w.alloc (.cells #[.slice At nt ct,.slice (some ⟨gk,ok',none⟩) nk ck,.int .i64 a,.int .i64 b,.int .i64 c,.int .i64 d,.int .i64 e,.int .i64 W,.int .i64 H,x,r,y] 47)).alloc (.cells #[.int .i64 T,.int .i64 Z,.slice (some ⟨gu,ou,none⟩) N cp] 51)).alloc (.cells #[.int .i64 (k:Int),v,.int .i64 at'] 53)).cell? ⟨gk,ok'+j*6+2,none⟩=some (.int .i64 mv)∧Kp w (((w.alloc (.cells #[.slice At nt ct,.slice (some ⟨gk,ok',none⟩) nk ck,.int .i64 a,.int .i64 b,.int .i64 c,.int .i64 d,.int .i64 e,.int .i64 W,.int .i64 H,x,r,y] 47)).alloc (.cells #[.int .i64 T,.int .i64 Z,.slice (some ⟨gu,ou,none⟩) N cp] 51)).alloc (.cells #[.int .i64 (k:Int),v,.int .i64 at'] 53))))):=⟨by simp [go_sem],by simp [go_sem],by simp [go_sem],by simp [go_sem],by simp [go_sem],by simp [go_sem],by simp [go_sem],by simp [go_sem],by simp [go_sem],by simp [go_sem],by simp [go_sem],by simp [go_sem],by simp [go_sem],by simp [go_sem],by simp [go_sem],by simp [go_sem],by simp [go_sem],by simp [go_sem],KA.cell q.1,KA.cell q.2.1,KA.cell q.2.2.1,KA.cell q.2.2.2,KA.cell hmc,KA⟩
 have HB:=Lib.hid hB
 have HS:=Lib.hid hS
 have HP:=Lib.hid hp
 have hk':(k:Int)<N:=by omega
 have hnk:j<nk:=by have:=hB.R.rk.1;omega
 have hnk':(j:Int)<nk:=by omega
 obtain⟨g1,g2,g3,g4⟩:=mapOk_side (brdOk_map hok)
 have CP:=Lib.hid (fun (w:World) hS=>oPlaced_any T Z (.slice (some ⟨gu,ou,none⟩) N cp) us sd (k:Int) w hS ha)
 rw [hg] at CP
 have CC:=Lib.hid (fun (w:World) hB hp q=>oCost_yes At nt nk ct ck l m a b c d e W H x r y lt lr ld T Z us k j sx ax tx gu ou N cp gk ok' at' v p w hB hok hw hp hl hk hj hx q)
 have CE:Hid (goB (stp l lt lr ld W H b c j Z) W ax p=true→∀ w,RdI w v p→(w.cell? ⟨gu,ou+k*4,none⟩=some (.int .i64 sx)∧w.cell? ⟨gu,ou+k*4+1,none⟩=some (.int .i64 (j:Int))∧w.cell? ⟨gu,ou+k*4+2,none⟩=some (.int .i64 ax)∧w.cell? ⟨gu,ou+k*4+3,none⟩=some (.int .i64 tx))→Calls Tryz.prog 86 #[bv (.slice At nt ct) (.slice (some ⟨gk,ok',none⟩) nk ck) a b c d e W H x r y,sv T Z (.slice (some ⟨gu,ou,none⟩) N cp),.agg #[.int .i64 (k:Int),v,.int .i64 at']] w fun e' w'=>e'=.returned (.int .i64 (endP W ax p))∧Kp w w'):=Lib.hid fun hgo w hp q=>oEnd_yes At nt nk ct ck l m a b c d e W H x r y lt lr ld T Z us k j sx ax tx gu ou N cp gk ok' at' v p w hok hp hk hx q hgo
 have HON:Hid (goB (stp l lt lr ld W H b c j Z) W ax p=true→onI W H (endP W ax p)=true):=Lib.hid fun h=>wlk_on step_nb p ax hx (goB_pth h).2
 have HSM:Hid (0≤sumL (cstP (stp l lt lr ld W H b c j Z) W ax p)):=Lib.hid (sumL_bd (B:=20) (by omega) _ (cstP_bd (W:=W) (stp_bd hok hj hw) p ax)).1
 generalize sumL (cstP (stp l lt lr ld W H b c j Z) W ax p)=R at CC HSM hmo ⊢
 generalize endP W ax p=E at CE HON ⊢
 clear hB hS hok hw hp hl hj hx q hmc ha hg
 rw [hgo,if_pos rfl] at CC
 have hon:=HON.out hgo
 have hsm:=HSM.out
 have CE:=Lib.hid (CE.out hgo)
 have hR0:¬ R<0:=by omega
 clear HON HSM hgo
 obtain⟨i0,i1⟩:=onI_true hon
 obtain⟨En,rfl⟩:∃ En:Nat,E=En:=⟨E.toNat,by omega⟩
 rw [Int.toNat_natCast]
 have hd:(at' == -1)=false:=by simpa using hat
 obtain⟨RR,hRR⟩:∃ z:Int,z=(if hasB (ints (nbT W H En 6)) at'=true then 0 else 5):=⟨_,rfl⟩
 rw [← hRR]
 have HRR:=Lib.hid hRR
 have CN:Hid (∀ (q:Nat) w,q<6→Calls Tryz.prog 123 #[mp W H x r y,.int .i64 (En:Int),.int .i64 (q:Int)] w fun e w'=>e=.returned (.int .i64 (orNo (nbM W H En q) (nbI W En q)))∧Kp w w'):=Lib.hid fun q w hq=>mNext_any W H x r y (En:Int) (q:Int) w g1 g2 g3 g4 i0 i1 (by omega) (by omega)
 clear hat hRR hon
 go_enter Tryz.func64,Tryz.ntmps64
 go_wp2_with fail
 refine(CP.out _ (HS.out.keep s0.2.2.2.2.2.2.2.2.2.2.2.2.2.2.2.2.2.2.2.2.2.2.2)).mono ?_
 rintro e1 w1 ⟨rfl,k1⟩
 have s1:=keepe23 k1 s0
 clear s0 k1
 go_wp2_with fail
 refine(CC.out _ (HB.out.keep s1.2.2.2.2.2.2.2.2.2.2.2.2.2.2.2.2.2.2.2.2.2.2.2) (HP.out.keep s1.2.2.2.2.2.2.2.2.2.2.2.2.2.2.2.2.2.2.2.2.2.2.2) ⟨s1.2.2.2.2.2.2.2.2.2.2.2.2.2.2.2.2.2.2.1,s1.2.2.2.2.2.2.2.2.2.2.2.2.2.2.2.2.2.2.2.1,s1.2.2.2.2.2.2.2.2.2.2.2.2.2.2.2.2.2.2.2.2.1,s1.2.2.2.2.2.2.2.2.2.2.2.2.2.2.2.2.2.2.2.2.2.1⟩).mono ?_
 rintro e2 w2 ⟨rfl,k2⟩
 have s2:=keepe23 k2 s1
 clear s1 k2
 go_upto_region 6 with (fail)
 have s3:=drewe23 s2
 clear s2
 refine wp_region_held_drew (S:=(fun w'=>cb12 w' (w.heap.size) (.slice At nt ct) (.slice (some ⟨gk,ok',none⟩) nk ck) (.int .i64 a) (.int .i64 b) (.int .i64 c) (.int .i64 d) (.int .i64 e) (.int .i64 W) (.int .i64 H) (x) (r) (y) (cb3 w' (w.heap.size+1) (.int .i64 T) (.int .i64 Z) (.slice (some ⟨gu,ou,none⟩) N cp) (cb3 w' (w.heap.size+1+1) (.int .i64 (k:Int)) (v) (.int .i64 at') (w'.cell? ⟨gu,ou+k*4,none⟩=some (.int .i64 sx)∧w'.cell? ⟨gu,ou+k*4+1,none⟩=some (.int .i64 (j:Int))∧w'.cell? ⟨gu,ou+k*4+2,none⟩=some (.int .i64 ax)∧w'.cell? ⟨gu,ou+k*4+3,none⟩=some (.int .i64 tx)∧w'.cell? ⟨gk,ok'+j*6+2,none⟩=some (.int .i64 mv)∧Kp w w'))))) (by kernel_rfl) ?_ (fun hHeld=>?_)
 ·exact s3
 refine tk 0 ⟨some 26,_,_,_,_,_⟩ ?_ rfl (by kernel_rfl) (fun _ _ _ h=>h) (by rfl) ?_ (by assumption) ?_
 rotate_left
 ·intro w hSw;(try dsimp only at hSw);go_simp;(all_goals with_reducible rfl)
 simp only [Act.put,sA,sB,sC]
 refine tk 1 ⟨some 27,_,_,_,_,_⟩ ?_ rfl (by kernel_rfl) (fun _ _ _ h=>h) (by rfl) ?_ (by assumption) ?_
 rotate_left
 ·intro w hSw;(try dsimp only at hSw);go_simp;(all_goals with_reducible rfl)
 simp only [Act.put,sA,sB,sC]
 refine tk 2 ⟨some 28,_,_,_,_,_⟩ ?_ rfl (by kernel_rfl) (fun _ _ _ h=>h) (by rfl) ?_ (by assumption) ?_
 rotate_left
 ·intro w hSw;(try dsimp only at hSw);go_simp;(all_goals with_reducible rfl)
 simp only [Act.put,sA,sB,sC]
 refine tk 3 ⟨some 29,_,_,_,_,_⟩ ?_ rfl (by kernel_rfl) (fun _ _ _ h=>h) (by rfl) ?_ (by assumption) ?_
 rotate_left
 ·intro w hSw;(try dsimp only at hSw);go_simp;(all_goals with_reducible rfl)
 simp only [Act.put,sA,sB,sC]
 refine tk 4 ⟨some 30,_,_,_,_,_⟩ ?_ rfl (by kernel_rfl) (fun _ _ _ h=>h) (by rfl) ?_ (by assumption) ?_
 rotate_left
 ·intro w hSw;(try dsimp only at hSw);go_simp;(all_goals with_reducible rfl)
 simp only [Act.put,sA,sB,sC]
 refine tk 5 ⟨some 31,_,_,_,_,_⟩ ?_ rfl (by kernel_rfl) (fun _ _ _ h=>h) (by rfl) ?_ (by assumption) ?_
 rotate_left
 ·intro w hSw;(try dsimp only at hSw);go_simp;(all_goals with_reducible rfl)
 simp only [Act.put,sA,sB,sC]
 refine tk 6 ⟨some 32,_,_,_,_,_⟩ ?_ rfl (by kernel_rfl) (fun _ _ _ h=>h) (by rfl) ?_ (by assumption) ?_
 rotate_left
 ·intro w hSw;(try dsimp only at hSw);go_simp;(all_goals with_reducible rfl)
 simp only [Act.put,sA,sB,sC]
 refine tk 7 ⟨some 33,_,_,_,_,_⟩ ?_ rfl (by kernel_rfl) (fun _ _ _ h=>h) (by rfl) ?_ (by assumption) ?_
 rotate_left
 ·intro w hSw;(try dsimp only at hSw);go_simp;(all_goals with_reducible rfl)
 simp only [Act.put,sA,sB,sC]
 refine tk 8 ⟨some 34,_,_,_,_,_⟩ ?_ rfl (by kernel_rfl) (fun _ _ _ h=>h) (by rfl) ?_ (by assumption) ?_
 rotate_left
 ·intro w hSw;(try dsimp only at hSw);go_simp;(all_goals with_reducible rfl)
 simp only [Act.put,sA,sB,sC]
 refine tk 9 ⟨some 35,_,_,_,_,_⟩ ?_ rfl (by kernel_rfl) (fun _ _ _ h=>h) (by rfl) ?_ (by assumption) ?_
 rotate_left
 ·intro w hSw;(try dsimp only at hSw);go_simp;(all_goals with_reducible rfl)
 simp only [Act.put,sA,sB,sC]
 refine tk 10 ⟨some 36,_,_,_,_,_⟩ ?_ rfl (by kernel_rfl) (fun _ _ _ h=>h) (by rfl) ?_ (by assumption) ?_
 rotate_left
 ·intro w hSw;(try dsimp only at hSw);go_simp;(all_goals with_reducible rfl)
 simp only [Act.put,sA,sB,sC]
 refine tk 11 ⟨some 37,_,_,_,_,_⟩ ?_ rfl (by kernel_rfl) (fun _ _ _ h=>h) (by rfl) ?_ (by assumption) ?_
 rotate_left
 ·intro w hSw;(try dsimp only at hSw);go_simp;(all_goals with_reducible rfl)
 simp only [Act.put,sA,sB,sC]
 refine tk 12 ⟨some 38,_,_,_,_,_⟩ ?_ rfl (by kernel_rfl) (fun _ _ _ h=>h) (by rfl) ?_ (by assumption) ?_
 rotate_left
 ·intro w hSw;(try dsimp only at hSw);go_simp;(all_goals with_reducible rfl)
 simp only [Act.put,sA,sB,sC]
 refine tk 13 ⟨some 39,_,_,_,_,_⟩ ?_ rfl (by kernel_rfl) (fun _ _ _ h=>h) (by rfl) ?_ (by assumption) ?_
 rotate_left
 ·intro w hSw;(try dsimp only at hSw);go_simp;(all_goals with_reducible rfl)
 simp only [Act.put,sA,sB,sC]
 refine tk 14 ⟨some 40,_,_,_,_,_⟩ ?_ rfl (by kernel_rfl) (fun _ _ _ h=>h) (by rfl) ?_ (by assumption) ?_
 rotate_left
 ·intro w hSw;(try dsimp only at hSw);go_simp;(all_goals with_reducible rfl)
 simp only [Act.put,sA,sB,sC]
 refine tk 15 ⟨some 25,_,_,_,_,_⟩ ?_ rfl (by kernel_rfl) (fun _ _ _ h=>h) (by rfl) ?_ (by assumption) ?_
 rotate_left
 ·intro w hSw;(try dsimp only at hSw);go_simp;(all_goals with_reducible rfl)
 simp only [Act.put,sA,sB,sC]
 refine wpAnyH_done (by kernel_rfl) ?_ _
 go_wp2_with fail
 have s4:=hHeld
 clear hHeld
 generalize w2.drew=WL at *
 go_loopw [10,11] (fun sq _ wx=>∃ q:Nat,q≤6∧sq=.int .i64 q∧Hid (hasB (ints (nbT W H En q)) at'=false)∧Kp WL wx) (fun sq _ _=>6 - (intOf sq).toNat)
 case atStart=>exact⟨0,by omega,rfl,Lib.hid (neb_zero _ _ _ _),Kp.refl _⟩
 case round =>
  obtain⟨q,hqn,rfl,HQ,kr⟩:=hrel
  have sr:=keepe23 kr s4
  by_cases hlt:q<6
  ·have hlt':(q:Int)<6:=by omega
   have CQ:=Lib.hid (fun w=>CN.out q w hlt)
   have HST:Hid (hasB (ints (nbT W H En (q+1))) at'=(nbM W H En q && decide (nbI W En q=at'))):=Lib.hid (by rw [neb_step,HQ.out,Bool.false_or])
   cases hnb:nbM W H En q
   ·rw [hnb,orNo_false] at CQ
    have HST2:Hid (hasB (ints (nbT W H En (q+1))) at'=false):=Lib.hid (by rw [HST.out,hnb];rfl)
    clear hnb HST s4 KA
    go_upto_region 13 with (fail)
    have s7:=drewe23 sr
    clear sr
    refine wp_region_held_drew (S:=(fun w'=>cb12 w' (w.heap.size) (.slice At nt ct) (.slice (some ⟨gk,ok',none⟩) nk ck) (.int .i64 a) (.int .i64 b) (.int .i64 c) (.int .i64 d) (.int .i64 e) (.int .i64 W) (.int .i64 H) (x) (r) (y) (cb3 w' (w.heap.size+1) (.int .i64 T) (.int .i64 Z) (.slice (some ⟨gu,ou,none⟩) N cp) (cb3 w' (w.heap.size+1+1) (.int .i64 (k:Int)) (v) (.int .i64 at') (w'.cell? ⟨gu,ou+k*4,none⟩=some (.int .i64 sx)∧w'.cell? ⟨gu,ou+k*4+1,none⟩=some (.int .i64 (j:Int))∧w'.cell? ⟨gu,ou+k*4+2,none⟩=some (.int .i64 ax)∧w'.cell? ⟨gu,ou+k*4+3,none⟩=some (.int .i64 tx)∧w'.cell? ⟨gk,ok'+j*6+2,none⟩=some (.int .i64 mv)∧Kp w w'))))) (by kernel_rfl) ?_ (fun hHeld=>?_)
    ·exact s7
    refine tk 0 ⟨some 49,_,_,_,_,_⟩ ?_ rfl (by kernel_rfl) (fun _ _ _ h=>h) (by rfl) ?_ (by assumption) ?_
    rotate_left
    ·intro w hSw;(try dsimp only at hSw);go_simp;(all_goals with_reducible rfl)
    simp only [Act.put,sA,sB,sC]
    refine tk 1 ⟨some 50,_,_,_,_,_⟩ ?_ rfl (by kernel_rfl) (fun _ _ _ h=>h) (by rfl) ?_ (by assumption) ?_
    rotate_left
    ·intro w hSw;(try dsimp only at hSw);go_simp;(all_goals with_reducible rfl)
    simp only [Act.put,sA,sB,sC]
    refine tk 2 ⟨some 51,_,_,_,_,_⟩ ?_ rfl (by kernel_rfl) (fun _ _ _ h=>h) (by rfl) ?_ (by assumption) ?_
    rotate_left
    ·intro w hSw;(try dsimp only at hSw);go_simp;(all_goals with_reducible rfl)
    simp only [Act.put,sA,sB,sC]
    refine tk 3 ⟨some 52,_,_,_,_,_⟩ ?_ rfl (by kernel_rfl) (fun _ _ _ h=>h) (by rfl) ?_ (by assumption) ?_
    rotate_left
    ·intro w hSw;(try dsimp only at hSw);go_simp;(all_goals with_reducible rfl)
    simp only [Act.put,sA,sB,sC]
    refine tk 4 ⟨some 53,_,_,_,_,_⟩ ?_ rfl (by kernel_rfl) (fun _ _ _ h=>h) (by rfl) ?_ (by assumption) ?_
    rotate_left
    ·intro w hSw;(try dsimp only at hSw);go_simp;(all_goals with_reducible rfl)
    simp only [Act.put,sA,sB,sC]
    refine tk 6 ⟨some 55,_,_,_,_,_⟩ ?_ rfl (by kernel_rfl) (fun _ _ _ h=>h) (by rfl) ?_ (by assumption) ?_
    rotate_left
    ·intro w hSw;(try dsimp only at hSw);go_simp;(all_goals with_reducible rfl)
    simp only [Act.put,sA,sB,sC]
    refine wpAnyH_ready (rs:=[5]) (by kernel_rfl) (by simp) ?_
    refine AllReadyH.cons (o:=⟨some 54,_,_,_,_,_⟩) rfl (fun K hK=>?_) AllReadyH.nil
    go_simp
    refine(CE.out _ (HP.out.keep hHeld.2.2.2.2.2.2.2.2.2.2.2.2.2.2.2.2.2.2.2.2.2.2.2) ⟨hHeld.2.2.2.2.2.2.2.2.2.2.2.2.2.2.2.2.2.2.1,hHeld.2.2.2.2.2.2.2.2.2.2.2.2.2.2.2.2.2.2.2.1,hHeld.2.2.2.2.2.2.2.2.2.2.2.2.2.2.2.2.2.2.2.2.1,hHeld.2.2.2.2.2.2.2.2.2.2.2.2.2.2.2.2.2.2.2.2.2.1⟩).mono ?_;rintro e8 w8 ⟨rfl,k8⟩;have s8:=keepe23 k8 hHeld
    go_wp2_with fail
    refine hK.out _ _ ?_ (fun hHeld=>?_)
    ·(try dsimp only);(first | assumption | exact s9 | exact s8 | exact s7)
    clear hK K
    try simp only [Act.put,sA,sB,sC]
    refine wpAnyH_ready (rs:=[7]) (by kernel_rfl) (by simp) ?_
    refine AllReadyH.cons (o:=⟨some 56,_,_,_,_,_⟩) rfl (fun K hK=>?_) AllReadyH.nil
    go_simp
    refine(CQ.out _).mono ?_;rintro e9 w9 ⟨rfl,k9⟩;have s9:=keepe23 k9 hHeld
    go_wp2_with fail
    refine hK.out _ _ ?_ (fun hHeld=>?_)
    ·(try dsimp only);(first | assumption | exact s9 | exact s8 | exact s7)
    clear hK K
    try simp only [Act.put,sA,sB,sC]
    refine tk 8 ⟨some 11,_,_,_,_,_⟩ ?_ rfl (by kernel_rfl) (fun _ _ _ h=>h) (by rfl) ?_ (by assumption) ?_
    rotate_left
    ·intro w hSw;(try dsimp only at hSw);go_simp;(all_goals with_reducible rfl)
    simp only [Act.put,sA,sB,sC]
    refine wpAnyH_done (by kernel_rfl) ?_ _
    go_wp2_with fail
    go_roundw
    case rel=>exact⟨q+1,by omega,by go_num,HST2,by exact kr.trans ((Kp.refl _).drew.trans (k8.trans k9))⟩
    case measure=>simp [intOf];omega
   ·rw [hnb,orNo_true] at CQ
    have hj0:0≤nbI W En q:=(nbM_at hnb).1
    rw [hnb,Bool.true_and] at HST
    generalize nbI W En q=J at CQ HST hj0
    by_cases hja:J=at'
    ·have HJA:=Lib.hid hja
     have hjd:(J == at')=true:=by simpa using hja
     have HY:Hid (RR=0):=Lib.hid (by rw [HRR.out,if_pos (neb_mono (by rw [HST.out];simpa using hja) (by omega))])
     clear hnb HST s4 KA
     go_upto_region 13 with (fail)
     have s7:=drewe23 sr
     clear sr
     refine wp_region_held_drew (S:=(fun w'=>cb12 w' (w.heap.size) (.slice At nt ct) (.slice (some ⟨gk,ok',none⟩) nk ck) (.int .i64 a) (.int .i64 b) (.int .i64 c) (.int .i64 d) (.int .i64 e) (.int .i64 W) (.int .i64 H) (x) (r) (y) (cb3 w' (w.heap.size+1) (.int .i64 T) (.int .i64 Z) (.slice (some ⟨gu,ou,none⟩) N cp) (cb3 w' (w.heap.size+1+1) (.int .i64 (k:Int)) (v) (.int .i64 at') (w'.cell? ⟨gu,ou+k*4,none⟩=some (.int .i64 sx)∧w'.cell? ⟨gu,ou+k*4+1,none⟩=some (.int .i64 (j:Int))∧w'.cell? ⟨gu,ou+k*4+2,none⟩=some (.int .i64 ax)∧w'.cell? ⟨gu,ou+k*4+3,none⟩=some (.int .i64 tx)∧w'.cell? ⟨gk,ok'+j*6+2,none⟩=some (.int .i64 mv)∧Kp w w'))))) (by kernel_rfl) ?_ (fun hHeld=>?_)
     ·exact s7
     refine tk 0 ⟨some 49,_,_,_,_,_⟩ ?_ rfl (by kernel_rfl) (fun _ _ _ h=>h) (by rfl) ?_ (by assumption) ?_
     rotate_left
     ·intro w hSw;(try dsimp only at hSw);go_simp;(all_goals with_reducible rfl)
     simp only [Act.put,sA,sB,sC]
     refine tk 1 ⟨some 50,_,_,_,_,_⟩ ?_ rfl (by kernel_rfl) (fun _ _ _ h=>h) (by rfl) ?_ (by assumption) ?_
     rotate_left
     ·intro w hSw;(try dsimp only at hSw);go_simp;(all_goals with_reducible rfl)
     simp only [Act.put,sA,sB,sC]
     refine tk 2 ⟨some 51,_,_,_,_,_⟩ ?_ rfl (by kernel_rfl) (fun _ _ _ h=>h) (by rfl) ?_ (by assumption) ?_
     rotate_left
     ·intro w hSw;(try dsimp only at hSw);go_simp;(all_goals with_reducible rfl)
     simp only [Act.put,sA,sB,sC]
     refine tk 3 ⟨some 52,_,_,_,_,_⟩ ?_ rfl (by kernel_rfl) (fun _ _ _ h=>h) (by rfl) ?_ (by assumption) ?_
     rotate_left
     ·intro w hSw;(try dsimp only at hSw);go_simp;(all_goals with_reducible rfl)
     simp only [Act.put,sA,sB,sC]
     refine tk 4 ⟨some 53,_,_,_,_,_⟩ ?_ rfl (by kernel_rfl) (fun _ _ _ h=>h) (by rfl) ?_ (by assumption) ?_
     rotate_left
     ·intro w hSw;(try dsimp only at hSw);go_simp;(all_goals with_reducible rfl)
     simp only [Act.put,sA,sB,sC]
     refine tk 6 ⟨some 55,_,_,_,_,_⟩ ?_ rfl (by kernel_rfl) (fun _ _ _ h=>h) (by rfl) ?_ (by assumption) ?_
     rotate_left
     ·intro w hSw;(try dsimp only at hSw);go_simp;(all_goals with_reducible rfl)
     simp only [Act.put,sA,sB,sC]
     refine wpAnyH_ready (rs:=[5]) (by kernel_rfl) (by simp) ?_
     refine AllReadyH.cons (o:=⟨some 54,_,_,_,_,_⟩) rfl (fun K hK=>?_) AllReadyH.nil
     go_simp
     refine(CE.out _ (HP.out.keep hHeld.2.2.2.2.2.2.2.2.2.2.2.2.2.2.2.2.2.2.2.2.2.2.2) ⟨hHeld.2.2.2.2.2.2.2.2.2.2.2.2.2.2.2.2.2.2.1,hHeld.2.2.2.2.2.2.2.2.2.2.2.2.2.2.2.2.2.2.2.1,hHeld.2.2.2.2.2.2.2.2.2.2.2.2.2.2.2.2.2.2.2.2.1,hHeld.2.2.2.2.2.2.2.2.2.2.2.2.2.2.2.2.2.2.2.2.2.1⟩).mono ?_;rintro e8 w8 ⟨rfl,k8⟩;have s8:=keepe23 k8 hHeld
     go_wp2_with fail
     refine hK.out _ _ ?_ (fun hHeld=>?_)
     ·(try dsimp only);(first | assumption | exact s9 | exact s8 | exact s7)
     clear hK K
     try simp only [Act.put,sA,sB,sC]
     refine wpAnyH_ready (rs:=[7]) (by kernel_rfl) (by simp) ?_
     refine AllReadyH.cons (o:=⟨some 56,_,_,_,_,_⟩) rfl (fun K hK=>?_) AllReadyH.nil
     go_simp
     refine(CQ.out _).mono ?_;rintro e9 w9 ⟨rfl,k9⟩;have s9:=keepe23 k9 hHeld
     go_wp2_with fail
     refine hK.out _ _ ?_ (fun hHeld=>?_)
     ·(try dsimp only);(first | assumption | exact s9 | exact s8 | exact s7)
     clear hK K
     try simp only [Act.put,sA,sB,sC]
     refine tk 8 ⟨some 11,_,_,_,_,_⟩ ?_ rfl (by kernel_rfl) (fun _ _ _ h=>h) (by rfl) ?_ (by assumption) ?_
     rotate_left
     ·intro w hSw;(try dsimp only at hSw);go_simp;(all_goals with_reducible rfl)
     simp only [Act.put,sA,sB,sC]
     refine wpAnyH_done (by kernel_rfl) ?_ _
     go_wp2_with fail
     go_ret
     exact⟨ret_int HY.out.symm,hHeld.2.2.2.2.2.2.2.2.2.2.2.2.2.2.2.2.2.2.2.2.2.2.2⟩
    ·have hjd:(J == at')=false:=by simpa using hja
     have HST2:Hid (hasB (ints (nbT W H En (q+1))) at'=false):=Lib.hid (by rw [HST.out];exact decide_eq_false hja)
     clear hnb HST s4 KA
     go_upto_region 13 with (fail)
     have s7:=drewe23 sr
     clear sr
     refine wp_region_held_drew (S:=(fun w'=>cb12 w' (w.heap.size) (.slice At nt ct) (.slice (some ⟨gk,ok',none⟩) nk ck) (.int .i64 a) (.int .i64 b) (.int .i64 c) (.int .i64 d) (.int .i64 e) (.int .i64 W) (.int .i64 H) (x) (r) (y) (cb3 w' (w.heap.size+1) (.int .i64 T) (.int .i64 Z) (.slice (some ⟨gu,ou,none⟩) N cp) (cb3 w' (w.heap.size+1+1) (.int .i64 (k:Int)) (v) (.int .i64 at') (w'.cell? ⟨gu,ou+k*4,none⟩=some (.int .i64 sx)∧w'.cell? ⟨gu,ou+k*4+1,none⟩=some (.int .i64 (j:Int))∧w'.cell? ⟨gu,ou+k*4+2,none⟩=some (.int .i64 ax)∧w'.cell? ⟨gu,ou+k*4+3,none⟩=some (.int .i64 tx)∧w'.cell? ⟨gk,ok'+j*6+2,none⟩=some (.int .i64 mv)∧Kp w w'))))) (by kernel_rfl) ?_ (fun hHeld=>?_)
     ·exact s7
     refine tk 0 ⟨some 49,_,_,_,_,_⟩ ?_ rfl (by kernel_rfl) (fun _ _ _ h=>h) (by rfl) ?_ (by assumption) ?_
     rotate_left
     ·intro w hSw;(try dsimp only at hSw);go_simp;(all_goals with_reducible rfl)
     simp only [Act.put,sA,sB,sC]
     refine tk 1 ⟨some 50,_,_,_,_,_⟩ ?_ rfl (by kernel_rfl) (fun _ _ _ h=>h) (by rfl) ?_ (by assumption) ?_
     rotate_left
     ·intro w hSw;(try dsimp only at hSw);go_simp;(all_goals with_reducible rfl)
     simp only [Act.put,sA,sB,sC]
     refine tk 2 ⟨some 51,_,_,_,_,_⟩ ?_ rfl (by kernel_rfl) (fun _ _ _ h=>h) (by rfl) ?_ (by assumption) ?_
     rotate_left
     ·intro w hSw;(try dsimp only at hSw);go_simp;(all_goals with_reducible rfl)
     simp only [Act.put,sA,sB,sC]
     refine tk 3 ⟨some 52,_,_,_,_,_⟩ ?_ rfl (by kernel_rfl) (fun _ _ _ h=>h) (by rfl) ?_ (by assumption) ?_
     rotate_left
     ·intro w hSw;(try dsimp only at hSw);go_simp;(all_goals with_reducible rfl)
     simp only [Act.put,sA,sB,sC]
     refine tk 4 ⟨some 53,_,_,_,_,_⟩ ?_ rfl (by kernel_rfl) (fun _ _ _ h=>h) (by rfl) ?_ (by assumption) ?_
     rotate_left
     ·intro w hSw;(try dsimp only at hSw);go_simp;(all_goals with_reducible rfl)
     simp only [Act.put,sA,sB,sC]
     refine tk 6 ⟨some 55,_,_,_,_,_⟩ ?_ rfl (by kernel_rfl) (fun _ _ _ h=>h) (by rfl) ?_ (by assumption) ?_
     rotate_left
     ·intro w hSw;(try dsimp only at hSw);go_simp;(all_goals with_reducible rfl)
     simp only [Act.put,sA,sB,sC]
     refine wpAnyH_ready (rs:=[5]) (by kernel_rfl) (by simp) ?_
     refine AllReadyH.cons (o:=⟨some 54,_,_,_,_,_⟩) rfl (fun K hK=>?_) AllReadyH.nil
     go_simp
     refine(CE.out _ (HP.out.keep hHeld.2.2.2.2.2.2.2.2.2.2.2.2.2.2.2.2.2.2.2.2.2.2.2) ⟨hHeld.2.2.2.2.2.2.2.2.2.2.2.2.2.2.2.2.2.2.1,hHeld.2.2.2.2.2.2.2.2.2.2.2.2.2.2.2.2.2.2.2.1,hHeld.2.2.2.2.2.2.2.2.2.2.2.2.2.2.2.2.2.2.2.2.1,hHeld.2.2.2.2.2.2.2.2.2.2.2.2.2.2.2.2.2.2.2.2.2.1⟩).mono ?_;rintro e8 w8 ⟨rfl,k8⟩;have s8:=keepe23 k8 hHeld
     go_wp2_with fail
     refine hK.out _ _ ?_ (fun hHeld=>?_)
     ·(try dsimp only);(first | assumption | exact s9 | exact s8 | exact s7)
     clear hK K
     try simp only [Act.put,sA,sB,sC]
     refine wpAnyH_ready (rs:=[7]) (by kernel_rfl) (by simp) ?_
     refine AllReadyH.cons (o:=⟨some 56,_,_,_,_,_⟩) rfl (fun K hK=>?_) AllReadyH.nil
     go_simp
     refine(CQ.out _).mono ?_;rintro e9 w9 ⟨rfl,k9⟩;have s9:=keepe23 k9 hHeld
     go_wp2_with fail
     refine hK.out _ _ ?_ (fun hHeld=>?_)
     ·(try dsimp only);(first | assumption | exact s9 | exact s8 | exact s7)
     clear hK K
     try simp only [Act.put,sA,sB,sC]
     refine tk 8 ⟨some 11,_,_,_,_,_⟩ ?_ rfl (by kernel_rfl) (fun _ _ _ h=>h) (by rfl) ?_ (by assumption) ?_
     rotate_left
     ·intro w hSw;(try dsimp only at hSw);go_simp;(all_goals with_reducible rfl)
     simp only [Act.put,sA,sB,sC]
     refine wpAnyH_done (by kernel_rfl) ?_ _
     go_wp2_with fail
     go_roundw
     case rel=>exact⟨q+1,by omega,by go_num,HST2,by exact kr.trans ((Kp.refl _).drew.trans (k8.trans k9))⟩
     case measure=>simp [intOf];omega
  ·obtain rfl:q=6:=by omega
   have HY:Hid (RR=5):=Lib.hid (by rw [HRR.out,HQ.out,if_neg (by simp)])
   go_wp2_with fail
   go_ret
   exact⟨ret_int HY.out.symm,sr.2.2.2.2.2.2.2.2.2.2.2.2.2.2.2.2.2.2.2.2.2.2.2⟩
end Go.Proofs.YtacgknllagdkoaaGreatDoor
