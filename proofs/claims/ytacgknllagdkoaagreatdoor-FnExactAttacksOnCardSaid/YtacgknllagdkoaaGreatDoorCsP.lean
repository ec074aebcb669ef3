/-
 The program's cost of a step: the weather, rivers, roads, sums of numbers, where a step leads. Nothing that was there is changed. The table of directions holds what the program's text lays.
-/
import Derived.Test.YtacgknllagdkoaaGreatDoorCsM
import Derived.StillTailTactics
import Derived.Deep.Cut
import Derived.Maps.AppendAt
import Derived.Test.YtacgknllagdkoaaGreatDoorQa
import Derived.Test.YtacgknllagdkoaaGreatDoorQa
namespace Go.Proofs.YtacgknllagdkoaaGreatDoor
open Go.RowKit
theorem keepm14 {W0 w w1:World} {p0 p1 p2 p3 p4 p5 p6 p7 p8 p9 p10 p11 p12 p13:Addr} {v0 v1 v2 v3 v4 v5 v6 v7 v8 v9 v10 v11 v12 v13:Value} (k:Kp w w1) (h:w.cell? p0=some v0∧w.cell? p1=some v1∧w.cell? p2=some v2∧w.cell? p3=some v3∧w.cell? p4=some v4∧w.cell? p5=some v5∧w.cell? p6=some v6∧w.cell? p7=some v7∧w.cell? p8=some v8∧w.cell? p9=some v9∧w.cell? p10=some v10∧w.cell? p11=some v11∧w.cell? p12=some v12∧w.cell? p13=some v13∧Kp W0 w):w1.cell? p0=some v0∧w1.cell? p1=some v1∧w1.cell? p2=some v2∧w1.cell? p3=some v3∧w1.cell? p4=some v4∧w1.cell? p5=some v5∧w1.cell? p6=some v6∧w1.cell? p7=some v7∧w1.cell? p8=some v8∧w1.cell? p9=some v9∧w1.cell? p10=some v10∧w1.cell? p11=some v11∧w1.cell? p12=some v12∧w1.cell? p13=some v13∧Kp W0 w1 :=
 ⟨k.cell h.1,k.cell h.2.1,k.cell h.2.2.1,k.cell h.2.2.2.1,k.cell h.2.2.2.2.1,k.cell h.2.2.2.2.2.1,k.cell h.2.2.2.2.2.2.1,k.cell h.2.2.2.2.2.2.2.1,k.cell h.2.2.2.2.2.2.2.2.1,k.cell h.2.2.2.2.2.2.2.2.2.1,k.cell h.2.2.2.2.2.2.2.2.2.2.1,k.cell h.2.2.2.2.2.2.2.2.2.2.2.1,k.cell h.2.2.2.2.2.2.2.2.2.2.2.2.1,k.cell h.2.2.2.2.2.2.2.2.2.2.2.2.2.1,h.2.2.2.2.2.2.2.2.2.2.2.2.2.2.trans k⟩
theorem drewm14 {W0 w:World} {p0 p1 p2 p3 p4 p5 p6 p7 p8 p9 p10 p11 p12 p13:Addr} {v0 v1 v2 v3 v4 v5 v6 v7 v8 v9 v10 v11 v12 v13:Value} (h:w.cell? p0=some v0∧w.cell? p1=some v1∧w.cell? p2=some v2∧w.cell? p3=some v3∧w.cell? p4=some v4∧w.cell? p5=some v5∧w.cell? p6=some v6∧w.cell? p7=some v7∧w.cell? p8=some v8∧w.cell? p9=some v9∧w.cell? p10=some v10∧w.cell? p11=some v11∧w.cell? p12=some v12∧w.cell? p13=some v13∧Kp W0 w):w.drew.cell? p0=some v0∧w.drew.cell? p1=some v1∧w.drew.cell? p2=some v2∧w.drew.cell? p3=some v3∧w.drew.cell? p4=some v4∧w.drew.cell? p5=some v5∧w.drew.cell? p6=some v6∧w.drew.cell? p7=some v7∧w.drew.cell? p8=some v8∧w.drew.cell? p9=some v9∧w.drew.cell? p10=some v10∧w.drew.cell? p11=some v11∧w.drew.cell? p12=some v12∧w.drew.cell? p13=some v13∧Kp W0 w.drew :=
 ⟨h.1,h.2.1,h.2.2.1,h.2.2.2.1,h.2.2.2.2.1,h.2.2.2.2.2.1,h.2.2.2.2.2.2.1,h.2.2.2.2.2.2.2.1,h.2.2.2.2.2.2.2.2.1,h.2.2.2.2.2.2.2.2.2.1,h.2.2.2.2.2.2.2.2.2.2.1,h.2.2.2.2.2.2.2.2.2.2.2.1,h.2.2.2.2.2.2.2.2.2.2.2.2.1,h.2.2.2.2.2.2.2.2.2.2.2.2.2.1,h.2.2.2.2.2.2.2.2.2.2.2.2.2.2.drew⟩
set_option maxRecDepth 100000 in
set_option maxHeartbeats 4000000 in
theorem weatherCost_any (tw:Int) (rd:Bool) (w:World) (h:tw=0∨tw=1∨tw=2) :
  Calls Tryz.prog 273 #[.int .i64 tw,.bool rd] w fun e w'=>e=.returned (.int .i64 (if rd=true then wRd tw else tw))∧w=w':=by
 have e0:IntKind.i64.wrap (tw - 1)=tw - 1:=IntWalk.i64_in _ (by omega)
 have e1:=wRd_max h
 cases rd
 ·clear e0 e1 h
  go_enter Tryz.func273,Tryz.ntmps273
  go_wp2_with fail
  go_ret
  exact⟨rfl,rfl⟩
 ·rw [if_pos rfl,← e1]
  clear e1 h
  go_enter Tryz.func273,Tryz.ntmps273
  go_wp2_with fail
  all_goals
   go_ret
   exact⟨ret_int (by omega),rfl⟩
set_option maxRecDepth 100000 in
set_option maxHeartbeats 4000000 in
theorem sumOf_any (v:Value) (L:List Int) (w:World) (h:RdI w v L) (hl:L.length≤9) (hb:∀ x ∈ L,0≤x∧x≤1000) :
  Calls Tryz.prog 220 #[v] w fun e w'=>e=.returned (.int .i64 (sumL L))∧w=w':=by
 obtain⟨A,cp,rfl,h⟩:=h
 have HA:=Lib.hid h
 have HD:=Lib.hid hb
 have HT:Hid (∀ q,0≤sumL (L.take q)∧sumL (L.take q)≤9000):=Lib.hid fun q=>by
  have h1:=sumL_bd (by omega) (L.take q) (take_bd hb q)
  have h2:(L.take q).length≤9:=by rw [List.length_take];omega
  have h3:((L.take q).length:Int)*1000≤9*1000:=Int.mul_le_mul_of_nonneg_right (by omega) (by omega)
  omega
 obtain⟨n,hn⟩:∃ n,n=L.length:=⟨_,rfl⟩
 have HN:=Lib.hid hn
 rw [← hn] at h hl HA ⊢
 obtain⟨R,hR⟩:∃ R,R=sumL L:=⟨_,rfl⟩
 rw [← hR]
 have HR:=Lib.hid hR
 clear h hb hn hR
 go_enter Tryz.func220,Tryz.ntmps220
 go_wp2_with fail
 go_loop [3,5,8] (fun s _ i=>∃ q:Nat,q≤n∧i=.int .i64 q∧∃ Z:Int,s=.int .i64 Z∧Hid (Z=sumL (L.take q))) (fun _ _ i=>n - (intOf i).toNat)
 case atStart=>exact⟨0,by omega,rfl,0,rfl,Lib.hid (by simp [sumL])⟩
 case round =>
  obtain⟨q,hq,rfl,Z,rfl,hZ⟩:=hrel
  by_cases hlt:q<n
  ·obtain⟨g,off,rfl,hc⟩:=HA.out (by omega)
   obtain⟨z,hz⟩:∃ z,L[q]?=some z:=⟨L[q]'(by have:=HN.out;omega),List.getElem?_eq_getElem _⟩
   have a0:=hc q z hz
   have hzb:=HD.out z (List.mem_of_getElem? hz)
   have hZb:=HT.out q
   rw [← hZ.out] at hZb
   have HZ2:Hid (Z+z=sumL (L.take (q+1))):=Lib.hid (by rw [sumL_take hz,← hZ.out])
   have e0:IntKind.i64.wrap (Z+z)=Z+z:=IntWalk.i64_in _ (by omega)
   clear hc hz
   have hlt':(q:Int)<n:=by omega
   go_wp2_with fail
   go_round
   case rel=>exact⟨q+1,by omega,by go_num,Z+z,rfl,HZ2⟩
   case measure=>simp [intOf];omega
  ·obtain rfl:q=n:=by omega
   have HZ3:Hid (Z=R):=Lib.hid (by rw [hZ.out,HR.out,HN.out,List.take_length])
   go_wp2_with fail
   go_ret
   exact⟨ret_int HZ3.out,rfl⟩
theorem sumTwo_any (p q:Int) (w:World) (hp:0≤p∧p≤1000) (hq:0≤q∧q≤1000) :
  Calls Tryz.prog 220 #[.slice (some ⟨w.heap.size,0,none⟩) 2 2] (w.alloc (.cells #[.int .i64 p,.int .i64 q] 3)) fun e w'=>e=.returned (.int .i64 (p+q))∧(w.alloc (.cells #[.int .i64 p,.int .i64 q] 3))=w':=by
 have h:=sumOf_any (.slice (some ⟨w.heap.size,0,none⟩) 2 2) [p,q] (w.alloc (.cells #[.int .i64 p,.int .i64 q] 3)) ⟨_,_,rfl,fun _=>⟨w.heap.size,0,rfl,fun i y hy=>by
  match i,hy with
  | 0,hy=>simp only [List.getElem?_cons_zero,Option.some.injEq] at hy;subst hy;simp [go_sem]
  | 1,hy=>simp only [List.getElem?_cons_succ,List.getElem?_cons_zero,Option.some.injEq] at hy;subst hy;simp [go_sem]
  | n+2,hy=>simp at hy⟩⟩ (by simp) (by simp;omega)
 rw [sumL_two] at h
 exact h
theorem sumThree_any (p q z:Int) (w:World) (hp:0≤p∧p≤1000) (hq:0≤q∧q≤1000) (hz:0≤z∧z≤1000) :
  Calls Tryz.prog 220 #[.slice (some ⟨w.heap.size,0,none⟩) 3 3] (w.alloc (.cells #[.int .i64 p,.int .i64 q,.int .i64 z] 3)) fun e w'=>e=.returned (.int .i64 (p+(q+z)))∧(w.alloc (.cells #[.int .i64 p,.int .i64 q,.int .i64 z] 3))=w':=by
 have h:=sumOf_any (.slice (some ⟨w.heap.size,0,none⟩) 3 3) [p,q,z] (w.alloc (.cells #[.int .i64 p,.int .i64 q,.int .i64 z] 3)) ⟨_,_,rfl,fun _=>⟨w.heap.size,0,rfl,fun i y hy=>by
  match i,hy with
  | 0,hy=>simp only [List.getElem?_cons_zero,Option.some.injEq] at hy;subst hy;simp [go_sem]
  | 1,hy=>simp only [List.getElem?_cons_succ,List.getElem?_cons_zero,Option.some.injEq] at hy;subst hy;simp [go_sem]
  | 2,hy=>simp only [List.getElem?_cons_succ,List.getElem?_cons_zero,Option.some.injEq] at hy;subst hy;simp [go_sem]
  | n+3,hy=>simp at hy⟩⟩ (by simp) (by simp;omega)
 rw [sumL_three] at h
 exact h
set_option maxRecDepth 100000 in
set_option maxHeartbeats 4000000 in
theorem riverCost_any (At Ak:Option Addr) (nt nk ct ck:Nat) (_l:List Ter) (_m:List Knd) (a b c d e W H:Int) (x r y:Value) (lt lr ld:List Int) (k:Nat) (tw E:Int) (w:World) (hL:Lists w x r y lt lr ld) :
  Calls Tryz.prog 274 #[.agg #[.slice At nt ct,.slice Ak nk ck,.int .i64 a,.int .i64 b,.int .i64 c,.int .i64 d,.int .i64 e,.int .i64 W,.int .i64 H,x,r,y,.int .i64 (k:Int),.int .i64 tw],.int .i64 E] w fun e' w'=>e'=.returned (.int .i64 (if hasB lr E=true then b else 0))∧Kp w w':=by
 have KA:Kp w (w.alloc (.cells #[.slice At nt ct,.slice Ak nk ck,.int .i64 a,.int .i64 b,.int .i64 c,.int .i64 d,.int .i64 e,.int .i64 W,.int .i64 H,x,r,y,.int .i64 (k:Int),.int .i64 tw] 240)):=(Kp.refl w).alloc _
 have s0:cb14 (w.alloc (.cells #[.slice At nt ct,.slice Ak nk ck,.int .i64 a,.int .i64 b,.int .i64 c,.int .i64 d,.int .i64 e,.int .i64 W,.int .i64 H,x,r,y,.int .i64 (k:Int),.int .i64 tw] 240)) (w.heap.size) (.slice At nt ct) (.slice Ak nk ck) (.int .i64 a) (.int .i64 b) (.int .i64 c) (.int .i64 d) (.int .i64 e) (.int .i64 W) (.int .i64 H) (x) (r) (y) (.int .i64 (k:Int)) (.int .i64 tw) (Kp w (w.alloc (.cells #[.slice At nt ct,.slice Ak nk ck,.int .i64 a,.int .i64 b,.int .i64 c,.int .i64 d,.int .i64 e,.int .i64 W,.int .i64 H,x,r,y,.int .i64 (k:Int),.int .i64 tw] 240))):=⟨by simp [go_sem],by simp [go_sem],by simp [go_sem],by simp [go_sem],by simp [go_sem],by simp [go_sem],by simp [go_sem],by simp [go_sem],by simp [go_sem],by simp [go_sem],by simp [go_sem],by simp [go_sem],by simp [go_sem],by simp [go_sem],KA⟩
 have HL:=Lib.hid hL
 clear hL
 cases hr:hasB lr E
 ·rw [if_neg (by simp)]
  go_enter Tryz.func274,Tryz.ntmps274
  go_wp2_with fail
  refine(contains_any _ lr E _ (HL.out.keep s0.2.2.2.2.2.2.2.2.2.2.2.2.2.2).rr HL.out.br).mono ?_
  rintro e1 w1 ⟨rfl,rfl⟩
  rw [hr]
  go_wp2_with fail
  go_ret
  exact⟨rfl,s0.2.2.2.2.2.2.2.2.2.2.2.2.2.2⟩
 ·rw [if_pos rfl]
  go_enter Tryz.func274,Tryz.ntmps274
  go_wp2_with fail
  refine(contains_any _ lr E _ (HL.out.keep s0.2.2.2.2.2.2.2.2.2.2.2.2.2.2).rr HL.out.br).mono ?_
  rintro e1 w1 ⟨rfl,rfl⟩
  rw [hr]
  go_wp2_with fail
  go_ret
  exact⟨rfl,s0.2.2.2.2.2.2.2.2.2.2.2.2.2.2⟩
set_option maxRecDepth 100000 in
set_option maxHeartbeats 4000000 in
theorem costOver_any (At Ak:Option Addr) (nt nk ct ck:Nat) (l:List Ter) (m:List Knd) (a b c d e W H:Int) (x r y:Value) (lt lr ld:List Int) (k j:Nat) (tw E:Int) (w:World) (hB:BrdAt w At Ak nt nk l m x r y lt lr ld) (hok:brdOk ⟨l,m,a,b,c,d,e⟩ W H lt lr ld=true) (hk:k<m.length) (hw:tw=0∨tw=1∨tw=2) (hj:j<lt.length) :
  Calls Tryz.prog 251 #[.agg #[.slice At nt ct,.slice Ak nk ck,.int .i64 a,.int .i64 b,.int .i64 c,.int .i64 d,.int .i64 e,.int .i64 W,.int .i64 H,x,r,y,.int .i64 (k:Int),.int .i64 tw],.int .i64 E,.int .i64 (j:Int)] w fun e' w'=>e'=.returned (.int .i64 (if hasB ld E=true then c+wRd tw else costB l lt k j+tw+(if hasB lr E=true then b else 0)))∧Kp w w':=by
 have KA:Kp w (w.alloc (.cells #[.slice At nt ct,.slice Ak nk ck,.int .i64 a,.int .i64 b,.int .i64 c,.int .i64 d,.int .i64 e,.int .i64 W,.int .i64 H,x,r,y,.int .i64 (k:Int),.int .i64 tw] 240)):=(Kp.refl w).alloc _
 have s0:cb14 (w.alloc (.cells #[.slice At nt ct,.slice Ak nk ck,.int .i64 a,.int .i64 b,.int .i64 c,.int .i64 d,.int .i64 e,.int .i64 W,.int .i64 H,x,r,y,.int .i64 (k:Int),.int .i64 tw] 240)) (w.heap.size) (.slice At nt ct) (.slice Ak nk ck) (.int .i64 a) (.int .i64 b) (.int .i64 c) (.int .i64 d) (.int .i64 e) (.int .i64 W) (.int .i64 H) (x) (r) (y) (.int .i64 (k:Int)) (.int .i64 tw) (Kp w (w.alloc (.cells #[.slice At nt ct,.slice Ak nk ck,.int .i64 a,.int .i64 b,.int .i64 c,.int .i64 d,.int .i64 e,.int .i64 W,.int .i64 H,x,r,y,.int .i64 (k:Int),.int .i64 tw] 240))):=⟨by simp [go_sem],by simp [go_sem],by simp [go_sem],by simp [go_sem],by simp [go_sem],by simp [go_sem],by simp [go_sem],by simp [go_sem],by simp [go_sem],by simp [go_sem],by simp [go_sem],by simp [go_sem],by simp [go_sem],by simp [go_sem],KA⟩
 have HB:=Lib.hid hB
 have HL:=Lib.hid hB.L
 obtain⟨⟨b0,b1⟩,c0,c1⟩:=brd_lim hok
 obtain⟨_,_,z,_,_,_,_,_,hz,z0,z1⟩:=brd_hex hok hk hj
 have hq:=wRd_bd tw
 have CE:=Lib.hid (fun (w:World) hB=>enterCost_any At Ak nt nk ct ck l m a b c d e W H x r y lt lr ld k j w hB hok hk hj)
 have CV:=Lib.hid (fun (w:World) hL=>riverCost_any At Ak nt nk ct ck l m a b c d e W H x r y lt lr ld k tw E w hL)
 have CW:=Lib.hid (fun (rd:Bool) (w:World)=>weatherCost_any tw rd w hw)
 rw [hz] at CE ⊢
 obtain⟨rv,hrv⟩:∃ q:Int,q=(if hasB lr E=true then b else 0):=⟨_,rfl⟩
 have r0:0≤rv∧rv≤9:=by rw [hrv];split <;> omega
 rw [← hrv] at CV ⊢
 have t0:0≤tw∧tw≤2:=by omega
 have C3:=Lib.hid (fun (w:World)=>sumThree_any z rv tw w (by omega) (by omega) (by omega))
 have hz0':(w.alloc (.cells #[.slice At nt ct,.slice Ak nk ck,.int .i64 a,.int .i64 b,.int .i64 c,.int .i64 d,.int .i64 e,.int .i64 W,.int .i64 H,x,r,y,.int .i64 (k:Int),.int .i64 tw] 240)).heap.size=w.heap.size+1:=by simp
 have C2:=sumTwo_any c (wRd tw) (w.alloc (.cells #[.slice At nt ct,.slice Ak nk ck,.int .i64 a,.int .i64 b,.int .i64 c,.int .i64 d,.int .i64 e,.int .i64 W,.int .i64 H,x,r,y,.int .i64 (k:Int),.int .i64 tw] 240)) (by omega) (by omega)
 rw [hz0'] at C2
 have C2:=Lib.hid C2
 clear hz0'
 generalize wRd tw=q at *
 clear hB hok hk hj hw hz hrv
 cases hd:hasB ld E
 ·rw [if_neg (by simp)]
  have CW2:=Lib.hid (CW.out false)
  rw [if_neg (by simp)] at CW2
  clear CW C2
  go_enter Tryz.func251,Tryz.ntmps251
  go_wp2_with fail
  refine(contains_any _ ld E _ (HL.out.keep s0.2.2.2.2.2.2.2.2.2.2.2.2.2.2).rd HL.out.bd).mono ?_
  rintro e1 w1 ⟨rfl,rfl⟩
  rw [hd]
  go_wp2_with fail
  refine(CW2.out _).mono ?_
  rintro e2 w2 ⟨rfl,rfl⟩
  go_upto_region 5 with (fail)
  generalize (w.alloc (.cells #[.slice At nt ct,.slice Ak nk ck,.int .i64 a,.int .i64 b,.int .i64 c,.int .i64 d,.int .i64 e,.int .i64 W,.int .i64 H,x,r,y,.int .i64 (k:Int),.int .i64 tw] 240))=V0 at *
  have s1:=drewm14 s0
  refine wp_region_held_drew (S:=(fun w'=>cb14 w' (w.heap.size) (.slice At nt ct) (.slice Ak nk ck) (.int .i64 a) (.int .i64 b) (.int .i64 c) (.int .i64 d) (.int .i64 e) (.int .i64 W) (.int .i64 H) (x) (r) (y) (.int .i64 (k:Int)) (.int .i64 tw) (Kp w w'))) (by kernel_rfl) ?_ (fun hHeld=>?_)
  ·assumption
  generalize V0.drew=V at *
  refine tk 0 ⟨some 27,_,_,_,_,_⟩ ?_ rfl (by kernel_rfl) (fun _ _ _ h=>h) (by rfl) ?_ (by assumption) ?_
  rotate_left
  ·intro w hSw;(try dsimp only at hSw);go_simp;(all_goals with_reducible rfl)
  try simp only [Act.put,sA,sB,sC]
  refine tk 1 ⟨some 28,_,_,_,_,_⟩ ?_ rfl (by kernel_rfl) (fun _ _ _ h=>h) (by rfl) ?_ (by assumption) ?_
  rotate_left
  ·intro w hSw;(try dsimp only at hSw);go_simp;(all_goals with_reducible rfl)
  try simp only [Act.put,sA,sB,sC]
  refine tk 2 ⟨some 29,_,_,_,_,_⟩ ?_ rfl (by kernel_rfl) (fun _ _ _ h=>h) (by rfl) ?_ (by assumption) ?_
  rotate_left
  ·intro w hSw;(try dsimp only at hSw);go_simp;(all_goals with_reducible rfl)
  try simp only [Act.put,sA,sB,sC]
  refine tk 3 ⟨some 30,_,_,_,_,_⟩ ?_ rfl (by kernel_rfl) (fun _ _ _ h=>h) (by rfl) ?_ (by assumption) ?_
  rotate_left
  ·intro w hSw;(try dsimp only at hSw);go_simp;(all_goals with_reducible rfl)
  try simp only [Act.put,sA,sB,sC]
  refine tk 4 ⟨some 31,_,_,_,_,_⟩ ?_ rfl (by kernel_rfl) (fun _ _ _ h=>h) (by rfl) ?_ (by assumption) ?_
  rotate_left
  ·intro w hSw;(try dsimp only at hSw);go_simp;(all_goals with_reducible rfl)
  try simp only [Act.put,sA,sB,sC]
  refine tk 6 ⟨some 33,_,_,_,_,_⟩ ?_ rfl (by kernel_rfl) (fun _ _ _ h=>h) (by rfl) ?_ (by assumption) ?_
  rotate_left
  ·intro w hSw;(try dsimp only at hSw);go_simp;(all_goals with_reducible rfl)
  try simp only [Act.put,sA,sB,sC]
  refine tk 7 ⟨some 34,_,_,_,_,_⟩ ?_ rfl (by kernel_rfl) (fun _ _ _ h=>h) (by rfl) ?_ (by assumption) ?_
  rotate_left
  ·intro w hSw;(try dsimp only at hSw);go_simp;(all_goals with_reducible rfl)
  try simp only [Act.put,sA,sB,sC]
  refine tk 9 ⟨some 36,_,_,_,_,_⟩ ?_ rfl (by kernel_rfl) (fun _ _ _ h=>h) (by rfl) ?_ (by assumption) ?_
  rotate_left
  ·intro w hSw;(try dsimp only at hSw);go_simp;(all_goals with_reducible rfl)
  try simp only [Act.put,sA,sB,sC]
  refine wpAnyH_ready (rs:=[5]) (by kernel_rfl) (by simp) ?_
  refine(AllReadyH.cons (o:=⟨some 32,_,_,_,_,_⟩) rfl (fun K hK=>?_) AllReadyH.nil)
  go_simp
  refine(CE.out _ (HB.out.keep hHeld.2.2.2.2.2.2.2.2.2.2.2.2.2.2)).mono ?_
  rintro e5 w5 ⟨rfl,k5⟩
  have s5:=keepm14 k5 hHeld
  go_wp2_with fail
  refine hK.out _ _ ?_ (fun hHeld=>?_)
  ·(try dsimp only);(first | assumption | exact s5 | exact s6 | exact s7)
  clear hK K
  try simp only [Act.put,sA,sB,sC]
  refine wpAnyH_ready (rs:=[8]) (by kernel_rfl) (by simp) ?_
  refine(AllReadyH.cons (o:=⟨some 35,_,_,_,_,_⟩) rfl (fun K hK=>?_) AllReadyH.nil)
  go_simp
  refine(CV.out _ (HL.out.keep hHeld.2.2.2.2.2.2.2.2.2.2.2.2.2.2)).mono ?_
  rintro e6 w6 ⟨rfl,k6⟩
  have s6:=keepm14 k6 hHeld
  go_wp2_with fail
  refine hK.out _ _ ?_ (fun hHeld=>?_)
  ·(try dsimp only);(first | assumption | exact s5 | exact s6 | exact s7)
  clear hK K
  try simp only [Act.put,sA,sB,sC]
  refine wpAnyH_ready (rs:=[10]) (by kernel_rfl) (by simp) ?_
  refine(AllReadyH.cons (o:=⟨some 37,_,_,_,_,_⟩) rfl (fun K hK=>?_) AllReadyH.nil)
  go_simp
  go_wp2_with fail
  have s7:=keepm14 ((Kp.refl _).alloc (.cells #[.int .i64 z,.int .i64 rv,.int .i64 tw] 3)) hHeld
  refine hK.out _ _ ?_ (fun hHeld=>?_)
  ·(try dsimp only);(first | assumption | exact s5 | exact s6 | exact s7)
  clear hK K
  try simp only [Act.put,sA,sB,sC]
  refine wpAnyH_ready (rs:=[11]) (by kernel_rfl) (by simp) ?_
  refine(AllReadyH.cons (o:=⟨some 38,_,_,_,_,_⟩) rfl (fun K hK=>?_) AllReadyH.nil)
  go_simp
  refine(C3.out _).mono ?_
  rintro e8 w8 ⟨rfl,rfl⟩
  go_wp2_with fail
  refine hK.out _ _ ?_ (fun hHeld=>?_)
  ·(try dsimp only);(first | assumption | exact s5 | exact s6 | exact s7)
  clear hK K
  try simp only [Act.put,sA,sB,sC]
  refine tk 12 ⟨some 6,_,_,_,_,_⟩ ?_ rfl (by kernel_rfl) (fun _ _ _ h=>h) (by rfl) ?_ (by assumption) ?_
  rotate_left
  ·intro w hSw;(try dsimp only at hSw);go_simp;(all_goals with_reducible rfl)
  try simp only [Act.put,sA,sB,sC]
  refine wpAnyH_done (by kernel_rfl) ?_ _
  go_wp2_with fail
  go_ret
  exact⟨ret_int (by omega),hHeld.2.2.2.2.2.2.2.2.2.2.2.2.2.2⟩
 ·rw [if_pos rfl]
  have CW2:=Lib.hid (CW.out true)
  rw [if_pos rfl] at CW2
  clear CW C3 CE CV
  go_enter Tryz.func251,Tryz.ntmps251
  go_wp2_with fail
  refine(contains_any _ ld E _ (HL.out.keep s0.2.2.2.2.2.2.2.2.2.2.2.2.2.2).rd HL.out.bd).mono ?_
  rintro e1 w1 ⟨rfl,rfl⟩
  rw [hd]
  go_wp2_with fail
  refine(CW2.out _).mono ?_
  rintro e2 w2 ⟨rfl,rfl⟩
  go_wp2_with fail
  refine C2.out.mono ?_
  rintro e3 w3 ⟨rfl,rfl⟩
  go_wp2_with fail
  go_ret
  exact⟨rfl,s0.2.2.2.2.2.2.2.2.2.2.2.2.2.2.alloc _⟩
/-- What stepFrom hands back: where a step leads, its cost, and whether it exists. -/
abbrev sfR (ok:Bool) (j z:Int):Value:=.tuple #[.int .i64 (vI ok j),.int .i64 (vI ok z),.bool ok]
set_option maxRecDepth 100000 in
set_option maxHeartbeats 4000000 in
theorem stepFrom_any (At Ak:Option Addr) (nt nk ct ck:Nat) (l:List Ter) (m:List Knd) (a b c d e W H:Int) (x r y:Value) (lt lr ld:List Int) (k:Nat) (tw i dd:Int) (w:World) (ht:Tab w) (hB:BrdAt w At Ak nt nk l m x r y lt lr ld) (hok:brdOk ⟨l,m,a,b,c,d,e⟩ W H lt lr ld=true) (hk:k<m.length) (hw:tw=0∨tw=1∨tw=2) :
  Calls Tryz.prog 219 #[.agg #[.slice At nt ct,.slice Ak nk ck,.int .i64 a,.int .i64 b,.int .i64 c,.int .i64 d,.int .i64 e,.int .i64 W,.int .i64 H,x,r,y,.int .i64 (k:Int),.int .i64 tw],.int .i64 i,.int .i64 dd] w fun e' w'=>e'=.returned (sfR (decide (stp l lt lr ld W H b c k tw i dd ≠ 0)) (nbI W i dd) (stp l lt lr ld W H b c k tw i dd))∧Kp w w':=by
 have KA:Kp w (w.alloc (.cells #[.slice At nt ct,.slice Ak nk ck,.int .i64 a,.int .i64 b,.int .i64 c,.int .i64 d,.int .i64 e,.int .i64 W,.int .i64 H,x,r,y,.int .i64 (k:Int),.int .i64 tw] 240)):=(Kp.refl w).alloc _
 have s0:cb14 (w.alloc (.cells #[.slice At nt ct,.slice Ak nk ck,.int .i64 a,.int .i64 b,.int .i64 c,.int .i64 d,.int .i64 e,.int .i64 W,.int .i64 H,x,r,y,.int .i64 (k:Int),.int .i64 tw] 240)) (w.heap.size) (.slice At nt ct) (.slice Ak nk ck) (.int .i64 a) (.int .i64 b) (.int .i64 c) (.int .i64 d) (.int .i64 e) (.int .i64 W) (.int .i64 H) (x) (r) (y) (.int .i64 (k:Int)) (.int .i64 tw) (Kp w (w.alloc (.cells #[.slice At nt ct,.slice Ak nk ck,.int .i64 a,.int .i64 b,.int .i64 c,.int .i64 d,.int .i64 e,.int .i64 W,.int .i64 H,x,r,y,.int .i64 (k:Int),.int .i64 tw] 240))):=⟨by simp [go_sem],by simp [go_sem],by simp [go_sem],by simp [go_sem],by simp [go_sem],by simp [go_sem],by simp [go_sem],by simp [go_sem],by simp [go_sem],by simp [go_sem],by simp [go_sem],by simp [go_sem],by simp [go_sem],by simp [go_sem],KA⟩
 have HB:=Lib.hid hB
 have HT:=Lib.hid ht
 obtain⟨g1,g2,g3,g4⟩:=mapOk_side (brdOk_map hok)
 have hlen:=mapOk_len (brdOk_map hok)
 have CN:=Lib.hid (fun (w:World) ht=>neighbourIndex_any W H x r y i dd w g1 g2 g3 g4 ht)
 have CG:=Lib.hid (fun (w:World) ht=>edgeNumber_any W H x r y i dd w g1 g2 g3 g4 ht)
 cases hn:nbB W H i dd
 ·have hz:stp l lt lr ld W H b c k tw i dd=0:=stp_no hn
  rw [hz,show decide ((0:Int) ≠ 0)=false from rfl]
  rw [hn,ib_false] at CN
  clear hB ht hok hk hw hn hz CG HB hlen
  go_enter Tryz.func219,Tryz.ntmps219
  go_wp2_with fail
  refine(CN.out _ (HT.out.keep s0.2.2.2.2.2.2.2.2.2.2.2.2.2.2)).mono ?_
  rintro e1 w1 ⟨rfl,k1⟩
  go_wp2_with fail
  refine bodyPost_ret (v:=sfR false 0 0) (by simp [results,Tryz.results219,go_sem,vI]) rfl ⟨rfl,s0.2.2.2.2.2.2.2.2.2.2.2.2.2.2.trans k1⟩
 ·obtain⟨j,hj,hjl⟩:=nb_at hn hlen
  rw [hn,ib_true,hj] at CN
  rw [hn,ib_true] at CG
  have CO:=Lib.hid (fun (w:World) hB=>isOpen_any At Ak nt nk ct ck l m a b c d e W H x r y lt lr ld k j w hB hok hk hjl)
  by_cases hz:costB l lt k (nbI W i dd).toNat=0
  ·have hs:stp l lt lr ld W H b c k tw i dd=0:=stp_shut hn hz
   rw [hs,show decide ((0:Int) ≠ 0)=false from rfl]
   rw [hj,Int.toNat_natCast] at hz
   have hop:opnB l lt k j=false:=by simp [opnB,hz]
   rw [hop] at CO
   clear hB ht hok hk hw hn hz hs CG hlen hj hjl hop
   go_enter Tryz.func219,Tryz.ntmps219
   go_wp2_with fail
   refine(CN.out _ (HT.out.keep s0.2.2.2.2.2.2.2.2.2.2.2.2.2.2)).mono ?_
   rintro e1 w1 ⟨rfl,k1⟩
   have s1:=keepm14 k1 s0
   clear s0 k1
   go_wp2_with fail
   refine(CO.out _ (HB.out.keep s1.2.2.2.2.2.2.2.2.2.2.2.2.2.2)).mono ?_
   rintro e2 w2 ⟨rfl,k2⟩
   go_wp2_with fail
   refine bodyPost_ret (v:=sfR false 0 0) (by simp [results,Tryz.results219,go_sem,vI]) rfl ⟨rfl,s1.2.2.2.2.2.2.2.2.2.2.2.2.2.2.trans k2⟩
  ·have hp:=stp_pos hok hk hw hn hz
   have hd:decide (stp l lt lr ld W H b c k tw i dd ≠ 0)=true:=decide_eq_true (by omega)
   have hs:=stp_open (rv:=b) (rd:=c) (tw:=tw) (lr:=lr) (ld:=ld) hn hz
   rw [hd]
   obtain⟨_,_,zz,_,_,_,_,_,h6,h7,h8⟩:=brd_hex hok hk hjl
   have hop:opnB l lt k j=true:=by
    rw [hj,Int.toNat_natCast,h6] at hz
    unfold opnB
    rw [h6]
    exact decide_eq_true (by omega)
   rw [hop] at CO
   have CC:=Lib.hid (fun (w:World) hB=>costOver_any At Ak nt nk ct ck l m a b c d e W H x r y lt lr ld k j tw (edgI W i dd) w hB hok hk hw hjl)
   rw [hj,Int.toNat_natCast] at hs
   rw [← hs] at CC
   rw [hj]
   generalize stp l lt lr ld W H b c k tw i dd=Z at CC ⊢
   generalize edgI W i dd=E at CC CG
   clear hB ht hok hk hw hn hz hs hlen hj hjl hop hp hd h6 h7 h8
   go_enter Tryz.func219,Tryz.ntmps219
   go_wp2_with fail
   refine(CN.out _ (HT.out.keep s0.2.2.2.2.2.2.2.2.2.2.2.2.2.2)).mono ?_
   rintro e1 w1 ⟨rfl,k1⟩
   have s1:=keepm14 k1 s0
   clear s0 k1
   go_wp2_with fail
   refine(CO.out _ (HB.out.keep s1.2.2.2.2.2.2.2.2.2.2.2.2.2.2)).mono ?_
   rintro e2 w2 ⟨rfl,k2⟩
   have s2:=keepm14 k2 s1
   clear s1 k2
   go_wp2_with fail
   refine(CG.out _ (HT.out.keep s2.2.2.2.2.2.2.2.2.2.2.2.2.2.2)).mono ?_
   rintro e3 w3 ⟨rfl,k3⟩
   have s3:=keepm14 k3 s2
   clear s2 k3
   go_wp2_with fail
   refine(CC.out _ (HB.out.keep s3.2.2.2.2.2.2.2.2.2.2.2.2.2.2)).mono ?_
   rintro e4 w4 ⟨rfl,k4⟩
   go_wp2_with fail
   refine bodyPost_ret (v:=sfR true (j:Int) Z) (by simp [results,Tryz.results219,go_sem,vI]) rfl ⟨rfl,s3.2.2.2.2.2.2.2.2.2.2.2.2.2.2.trans k4⟩
end Go.Proofs.YtacgknllagdkoaaGreatDoor
