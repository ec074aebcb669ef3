/-
 The reference's costs of steps and paths. Nothing that was there is changed.
-/
import Derived.Test.YtacgknllagdkoaaGreatDoorCsP
import Derived.Test.YtacgknllagdkoaaGreatDoorCsF
import Derived.StillTailTactics
import Derived.Deep.Cut
import Derived.Maps.AppendAt
import Derived.Test.YtacgknllagdkoaaGreatDoorQa
import Derived.Test.YtacgknllagdkoaaGreatDoorQe
import Derived.Test.YtacgknllagdkoaaGreatDoorQj
import Derived.Test.YtacgknllagdkoaaGreatDoorQa
namespace Go.Proofs.YtacgknllagdkoaaGreatDoor
open Go.RowKit
theorem keepq12 {W0 w w1:World} {p0 p1 p2 p3 p4 p5 p6 p7 p8 p9 p10 p11:Addr} {v0 v1 v2 v3 v4 v5 v6 v7 v8 v9 v10 v11:Value} (k:Kp w w1) (h:w.cell? p0=some v0∧w.cell? p1=some v1∧w.cell? p2=some v2∧w.cell? p3=some v3∧w.cell? p4=some v4∧w.cell? p5=some v5∧w.cell? p6=some v6∧w.cell? p7=some v7∧w.cell? p8=some v8∧w.cell? p9=some v9∧w.cell? p10=some v10∧w.cell? p11=some v11∧Kp W0 w):w1.cell? p0=some v0∧w1.cell? p1=some v1∧w1.cell? p2=some v2∧w1.cell? p3=some v3∧w1.cell? p4=some v4∧w1.cell? p5=some v5∧w1.cell? p6=some v6∧w1.cell? p7=some v7∧w1.cell? p8=some v8∧w1.cell? p9=some v9∧w1.cell? p10=some v10∧w1.cell? p11=some v11∧Kp W0 w1 :=
 ⟨k.cell h.1,k.cell h.2.1,k.cell h.2.2.1,k.cell h.2.2.2.1,k.cell h.2.2.2.2.1,k.cell h.2.2.2.2.2.1,k.cell h.2.2.2.2.2.2.1,k.cell h.2.2.2.2.2.2.2.1,k.cell h.2.2.2.2.2.2.2.2.1,k.cell h.2.2.2.2.2.2.2.2.2.1,k.cell h.2.2.2.2.2.2.2.2.2.2.1,k.cell h.2.2.2.2.2.2.2.2.2.2.2.1,h.2.2.2.2.2.2.2.2.2.2.2.2.trans k⟩
theorem drewq12 {W0 w:World} {p0 p1 p2 p3 p4 p5 p6 p7 p8 p9 p10 p11:Addr} {v0 v1 v2 v3 v4 v5 v6 v7 v8 v9 v10 v11:Value} (h:w.cell? p0=some v0∧w.cell? p1=some v1∧w.cell? p2=some v2∧w.cell? p3=some v3∧w.cell? p4=some v4∧w.cell? p5=some v5∧w.cell? p6=some v6∧w.cell? p7=some v7∧w.cell? p8=some v8∧w.cell? p9=some v9∧w.cell? p10=some v10∧w.cell? p11=some v11∧Kp W0 w):w.drew.cell? p0=some v0∧w.drew.cell? p1=some v1∧w.drew.cell? p2=some v2∧w.drew.cell? p3=some v3∧w.drew.cell? p4=some v4∧w.drew.cell? p5=some v5∧w.drew.cell? p6=some v6∧w.drew.cell? p7=some v7∧w.drew.cell? p8=some v8∧w.drew.cell? p9=some v9∧w.drew.cell? p10=some v10∧w.drew.cell? p11=some v11∧Kp W0 w.drew :=
 ⟨h.1,h.2.1,h.2.2.1,h.2.2.2.1,h.2.2.2.2.1,h.2.2.2.2.2.1,h.2.2.2.2.2.2.1,h.2.2.2.2.2.2.2.1,h.2.2.2.2.2.2.2.2.1,h.2.2.2.2.2.2.2.2.2.1,h.2.2.2.2.2.2.2.2.2.2.1,h.2.2.2.2.2.2.2.2.2.2.2.1,h.2.2.2.2.2.2.2.2.2.2.2.2.drew⟩
set_option maxRecDepth 100000 in
set_option maxHeartbeats 4000000 in
theorem csWeather_any (tw:Int) (rd:Bool) (w:World) (h:tw=0∨tw=1∨tw=2) :
  Calls Tryz.prog 227 #[.int .i64 tw,.bool rd] w fun e w'=>e=.returned (.int .i64 (if rd=true then wRd tw else tw))∧w=w':=by
 have e0:IntKind.i64.wrap (tw.tdiv 2)=tw.tdiv 2:=by rcases h with rfl | rfl | rfl <;> decide
 have e1:=wRd_quo h
 cases rd
 ·clear e0 e1 h
  go_enter Tryz.func227,Tryz.ntmps227
  go_wp2_with fail
  go_ret
  exact⟨rfl,rfl⟩
 ·rw [if_pos rfl,← e1]
  clear e1 h
  go_enter Tryz.func227,Tryz.ntmps227
  go_wp2_with fail
  go_ret
  exact⟨rfl,rfl⟩
set_option maxRecDepth 100000 in
set_option maxHeartbeats 4000000 in
theorem cStep_any (At Ak:Option Addr) (nt nk ct ck:Nat) (l:List Ter) (m:List Knd) (a b c d e W H:Int) (x r y:Value) (lt lr ld:List Int) (k:Nat) (tw i dd:Int) (w:World) (hB:BrdAt w At Ak nt nk l m x r y lt lr ld) (hok:brdOk ⟨l,m,a,b,c,d,e⟩ W H lt lr ld=true) (hk:k<m.length) (hw:tw=0∨tw=1∨tw=2) (hi:onI W H i=true) (hd:0≤dd∧dd≤5) :
  Calls Tryz.prog 197 #[bv (.slice At nt ct) (.slice Ak nk ck) a b c d e W H x r y,.int .i64 (k:Int),.int .i64 i,.int .i64 dd,.int .i64 tw] w fun e' w'=>e'=.returned (.int .i64 (stp l lt lr ld W H b c k tw i dd))∧Kp w w':=by
 have KA:Kp w (w.alloc (.cells #[.slice At nt ct,.slice Ak nk ck,.int .i64 a,.int .i64 b,.int .i64 c,.int .i64 d,.int .i64 e,.int .i64 W,.int .i64 H,x,r,y] 47)):=(Kp.refl w).alloc _
 have s0:cb12 (w.alloc (.cells #[.slice At nt ct,.slice Ak nk ck,.int .i64 a,.int .i64 b,.int .i64 c,.int .i64 d,.int .i64 e,.int .i64 W,.int .i64 H,x,r,y] 47)) (w.heap.size) (.slice At nt ct) (.slice Ak nk ck) (.int .i64 a) (.int .i64 b) (.int .i64 c) (.int .i64 d) (.int .i64 e) (.int .i64 W) (.int .i64 H) (x) (r) (y) (Kp w (w.alloc (.cells #[.slice At nt ct,.slice Ak nk ck,.int .i64 a,.int .i64 b,.int .i64 c,.int .i64 d,.int .i64 e,.int .i64 W,.int .i64 H,x,r,y] 47))):=⟨by simp [go_sem],by simp [go_sem],by simp [go_sem],by simp [go_sem],by simp [go_sem],by simp [go_sem],by simp [go_sem],by simp [go_sem],by simp [go_sem],by simp [go_sem],by simp [go_sem],by simp [go_sem],KA⟩
 have HB:=Lib.hid hB
 have HL:=Lib.hid hB.L
 obtain⟨g1,g2,g3,g4⟩:=mapOk_side (brdOk_map hok)
 obtain⟨i0,i1⟩:=onI_true hi
 have hlen:=mapOk_len (brdOk_map hok)
 obtain⟨⟨b0,b1⟩,c0,c1⟩:=brd_lim hok
 have hq:=wRd_bd tw
 have CN:Hid (∀ w,Calls Tryz.prog 123 #[mp W H x r y,.int .i64 i,.int .i64 dd] w fun e w'=>e=.returned (.int .i64 (orNo (nbB W H i dd) (nbI W i dd)))∧Kp w w'):=Lib.hid fun w=>by
  have h:=mNext_any W H x r y i dd w g1 g2 g3 g4 i0 i1 hd.1 hd.2
  have e1:nbB W H i dd=nbM W H i dd:=by unfold nbB;rw [hi,dirB_mk hd.1 hd.2,Bool.true_and,Bool.true_and]
  rw [e1]
  exact h
 have CW:=Lib.hid (fun (rd:Bool) (w:World)=>csWeather_any tw rd w hw)
 cases hn:nbB W H i dd
 ·have hs:stp l lt lr ld W H b c k tw i dd=0:=stp_no hn
  rw [hs]
  rw [hn,orNo_false] at CN
  clear hB hok hk hw hi hd hn hs CW HB HL hlen
  go_enter Tryz.func197,Tryz.ntmps197
  go_wp2_with fail
  refine(CN.out _).mono ?_
  rintro e1 w1 ⟨rfl,k1⟩
  go_wp2_with fail
  go_ret
  exact⟨rfl,s0.2.2.2.2.2.2.2.2.2.2.2.2.trans k1⟩
 ·obtain⟨j,hj,hjl⟩:=nb_at hn hlen
  rw [hn,orNo_true,hj] at CN
  obtain⟨_,_,z,_,_,_,_,_,hz,z0,z1⟩:=brd_hex hok hk hjl
  have CC:=Lib.hid (fun (w:World) hB=>bCost_any At Ak nt nk ct ck l m a b c d e W H x r y lt lr ld k j w hB hok hk hjl)
  rw [hz] at CC
  have hj0:¬ (j:Int)<0:=by omega
  have CR:=Lib.hid (fun (w:World) hL=>mRoad_any W H x r y lt lr ld i dd w hL g1 g2 g3 g4 hn)
  have CV:=Lib.hid (fun (w:World) hL=>mRiver_any W H x r y lt lr ld i dd w hL g1 g2 g3 g4 hn)
  by_cases h0:z=0
  ·have hs:stp l lt lr ld W H b c k tw i dd=0:=stp_shut hn (by rw [hj,Int.toNat_natCast,hz,h0])
   rw [hs]
   subst h0
   clear hB hok hk hw hi hd hn hs CW CR CV hlen hj hjl hz HL
   go_enter Tryz.func197,Tryz.ntmps197
   go_wp2_with fail
   refine(CN.out _).mono ?_
   rintro e1 w1 ⟨rfl,k1⟩
   have s1:=keepq12 k1 s0
   clear s0 k1
   go_wp2_with fail
   refine(CC.out _ (HB.out.keep s1.2.2.2.2.2.2.2.2.2.2.2.2)).mono ?_
   rintro e2 w2 ⟨rfl,k2⟩
   go_wp2_with fail
   go_ret
   exact⟨rfl,s1.2.2.2.2.2.2.2.2.2.2.2.2.trans k2⟩
  ·have hs:=stp_open (rv:=b) (rd:=c) (tw:=tw) (lr:=lr) (ld:=ld) hn (show costB l lt k (nbI W i dd).toNat ≠ 0 by rw [hj,Int.toNat_natCast,hz];exact h0)
   rw [hj,Int.toNat_natCast,hz] at hs
   rw [hs]
   have hz1:(z == 0)=false:=by simp [h0]
   have t0:0≤tw∧tw≤2:=by omega
   generalize edgI W i dd=E at *
   clear hB hok hk hw hi hd hn hs hlen hj hjl hz
   cases hrd:hasB ld E
   ·rw [if_neg (by simp)]
    rw [hrd] at CR
    have CW2:=Lib.hid (CW.out false)
    rw [if_neg (by simp)] at CW2
    have e0:IntKind.i64.wrap (z+tw)=z+tw:=IntWalk.i64_in _ (by omega)
    have e1:IntKind.i64.wrap (z+tw+b)=z+tw+b:=IntWalk.i64_in _ (by omega)
    clear CW hq
    cases hrv:hasB lr E
    ·rw [if_neg (by simp)]
     rw [hrv] at CV
     go_enter Tryz.func197,Tryz.ntmps197
     go_wp2_with fail
     refine(CN.out _).mono ?_
     rintro e1 w1 ⟨rfl,k1⟩
     have s1:=keepq12 k1 s0
     clear s0 k1
     go_wp2_with fail
     refine(CC.out _ (HB.out.keep s1.2.2.2.2.2.2.2.2.2.2.2.2)).mono ?_
     rintro e2 w2 ⟨rfl,k2⟩
     have s2:=keepq12 k2 s1
     clear s1 k2
     go_wp2_with fail
     refine(CR.out _ (HL.out.keep s2.2.2.2.2.2.2.2.2.2.2.2.2)).mono ?_
     rintro e3 w3 ⟨rfl,k3⟩
     have s3:=keepq12 k3 s2
     clear s2 k3
     go_wp2_with fail
     refine(CC.out _ (HB.out.keep s3.2.2.2.2.2.2.2.2.2.2.2.2)).mono ?_
     rintro e4 w4 ⟨rfl,k4⟩
     have s4:=keepq12 k4 s3
     clear s3 k4
     go_wp2_with fail
     refine(CW2.out _).mono ?_
     rintro e5 w5 ⟨rfl,rfl⟩
     go_wp2_with fail
     refine(CV.out _ (HL.out.keep s4.2.2.2.2.2.2.2.2.2.2.2.2)).mono ?_
     rintro e6 w6 ⟨rfl,k6⟩
     have s5:=keepq12 k6 s4
     clear s4 k6
     go_wp2_with fail
     go_ret
     exact⟨ret_int (by omega),s5.2.2.2.2.2.2.2.2.2.2.2.2⟩
    ·rw [if_pos rfl]
     rw [hrv] at CV
     go_enter Tryz.func197,Tryz.ntmps197
     go_wp2_with fail
     refine(CN.out _).mono ?_
     rintro e1 w1 ⟨rfl,k1⟩
     have s1:=keepq12 k1 s0
     clear s0 k1
     go_wp2_with fail
     refine(CC.out _ (HB.out.keep s1.2.2.2.2.2.2.2.2.2.2.2.2)).mono ?_
     rintro e2 w2 ⟨rfl,k2⟩
     have s2:=keepq12 k2 s1
     clear s1 k2
     go_wp2_with fail
     refine(CR.out _ (HL.out.keep s2.2.2.2.2.2.2.2.2.2.2.2.2)).mono ?_
     rintro e3 w3 ⟨rfl,k3⟩
     have s3:=keepq12 k3 s2
     clear s2 k3
     go_wp2_with fail
     refine(CC.out _ (HB.out.keep s3.2.2.2.2.2.2.2.2.2.2.2.2)).mono ?_
     rintro e4 w4 ⟨rfl,k4⟩
     have s4:=keepq12 k4 s3
     clear s3 k4
     go_wp2_with fail
     refine(CW2.out _).mono ?_
     rintro e5 w5 ⟨rfl,rfl⟩
     go_wp2_with fail
     refine(CV.out _ (HL.out.keep s4.2.2.2.2.2.2.2.2.2.2.2.2)).mono ?_
     rintro e6 w6 ⟨rfl,k6⟩
     have s5:=keepq12 k6 s4
     clear s4 k6
     go_wp2_with fail
     go_ret
     exact⟨rfl,s5.2.2.2.2.2.2.2.2.2.2.2.2⟩
   ·rw [if_pos rfl]
    rw [hrd] at CR
    have CW2:=Lib.hid (CW.out true)
    rw [if_pos rfl] at CW2
    have e0:IntKind.i64.wrap (c+wRd tw)=c+wRd tw:=IntWalk.i64_in _ (by omega)
    generalize wRd tw=q at *
    clear CW CV
    go_enter Tryz.func197,Tryz.ntmps197
    go_wp2_with fail
    refine(CN.out _).mono ?_
    rintro e1 w1 ⟨rfl,k1⟩
    have s1:=keepq12 k1 s0
    clear s0 k1
    go_wp2_with fail
    refine(CC.out _ (HB.out.keep s1.2.2.2.2.2.2.2.2.2.2.2.2)).mono ?_
    rintro e2 w2 ⟨rfl,k2⟩
    have s2:=keepq12 k2 s1
    clear s1 k2
    go_wp2_with fail
    refine(CR.out _ (HL.out.keep s2.2.2.2.2.2.2.2.2.2.2.2.2)).mono ?_
    rintro e3 w3 ⟨rfl,k3⟩
    have s3:=keepq12 k3 s2
    clear s2 k3
    go_upto_region 5 with (fail)
    have s4:=drewq12 s3
    clear s3
    refine wp_region_held_drew (S:=(fun w'=>cb12 w' (w.heap.size) (.slice At nt ct) (.slice Ak nk ck) (.int .i64 a) (.int .i64 b) (.int .i64 c) (.int .i64 d) (.int .i64 e) (.int .i64 W) (.int .i64 H) (x) (r) (y) (Kp w w'))) (by kernel_rfl) ?_ (fun hHeld=>?_)
    ·assumption
    generalize w3.drew=V at *
    refine tk 0 ⟨some 32,_,_,_,_,_⟩ ?_ rfl (by kernel_rfl) (fun _ _ _ h=>h) (by rfl) ?_ (by assumption) ?_
    rotate_left
    ·intro w hSw;(try dsimp only at hSw);go_simp;(all_goals with_reducible rfl)
    try simp only [Act.put,sA,sB,sC]
    refine tk 1 ⟨some 33,_,_,_,_,_⟩ ?_ rfl (by kernel_rfl) (fun _ _ _ h=>h) (by rfl) ?_ (by assumption) ?_
    rotate_left
    ·intro w hSw;(try dsimp only at hSw);go_simp;(all_goals with_reducible rfl)
    try simp only [Act.put,sA,sB,sC]
    refine tk 2 ⟨some 34,_,_,_,_,_⟩ ?_ rfl (by kernel_rfl) (fun _ _ _ h=>h) (by rfl) ?_ (by assumption) ?_
    rotate_left
    ·intro w hSw;(try dsimp only at hSw);go_simp;(all_goals with_reducible rfl)
    try simp only [Act.put,sA,sB,sC]
    refine tk 3 ⟨some 35,_,_,_,_,_⟩ ?_ rfl (by kernel_rfl) (fun _ _ _ h=>h) (by rfl) ?_ (by assumption) ?_
    rotate_left
    ·intro w hSw;(try dsimp only at hSw);go_simp;(all_goals with_reducible rfl)
    try simp only [Act.put,sA,sB,sC]
    refine wpAnyH_ready (rs:=[4]) (by kernel_rfl) (by simp) ?_
    refine(AllReadyH.cons (o:=⟨some 36,_,_,_,_,_⟩) rfl (fun K hK=>?_) AllReadyH.nil)
    go_simp
    refine(CW2.out _).mono ?_
    rintro e5 w5 ⟨rfl,rfl⟩
    go_wp2_with fail
    refine hK.out _ _ ?_ (fun hHeld=>?_)
    ·(try dsimp only);(first | assumption)
    clear hK K
    try simp only [Act.put,sA,sB,sC]
    refine tk 5 ⟨some 37,_,_,_,_,_⟩ ?_ rfl (by kernel_rfl) (fun _ _ _ h=>h) (by rfl) ?_ (by assumption) ?_
    rotate_left
    ·intro w hSw;(try dsimp only at hSw);go_simp;(all_goals with_reducible rfl)
    try simp only [Act.put,sA,sB,sC]
    refine tk 6 ⟨some 10,_,_,_,_,_⟩ ?_ rfl (by kernel_rfl) (fun _ _ _ h=>h) (by rfl) ?_ (by assumption) ?_
    rotate_left
    ·intro w hSw;(try dsimp only at hSw);go_simp;(all_goals with_reducible rfl)
    try simp only [Act.put,sA,sB,sC]
    refine wpAnyH_done (by kernel_rfl) ?_ _
    go_wp2_with fail
    go_ret
    exact⟨rfl,hHeld.2.2.2.2.2.2.2.2.2.2.2.2⟩
/-- The sum of the costs along a path, or -1. -/
def csR (F:Int→Int→Int) (W:Int):Int→List Int→Int→Int
 | _,[],s=>s
 | i,x :: p,s=>if F i x=0 then -1 else csR F W (nbI W i x) p (s+F i x)
theorem csR_eq (F:Int→Int→Int) (W:Int):∀ (p:List Int) (i s:Int),csR F W i p s=if (cstP F W i p).length=p.length then s+sumL (cstP F W i p) else -1
 | [],i,s=>by simp [csR,cstP,sumL]
 | x :: p,i,s=>by
  unfold csR cstP
  by_cases h:F i x=0
  ·simp [h]
  ·rw [if_neg h,if_neg h,csR_eq F W p]
   simp only [List.length_cons,Nat.add_right_cancel_iff,sumL]
   split
   ·omega
   ·rfl
theorem drop_at {p:List Int} {q:Nat} {z:Int} (h:p[q]?=some z):p.drop q=z :: p.drop (q+1):=by
 obtain⟨hk,rfl⟩:=List.getElem?_eq_some_iff.1 h
 exact List.drop_eq_getElem_cons hk
set_option maxRecDepth 100000 in
set_option maxHeartbeats 4000000 in
theorem csCost_any (At Ak:Option Addr) (nt nk ct ck:Nat) (l:List Ter) (m:List Knd) (a b c d e W H:Int) (x r y:Value) (lt lr ld:List Int) (k:Nat) (tw i:Int) (v:Value) (p:List Int) (w:World) (hB:BrdAt w At Ak nt nk l m x r y lt lr ld) (hok:brdOk ⟨l,m,a,b,c,d,e⟩ W H lt lr ld=true) (hk:k<m.length) (hw:tw=0∨tw=1∨tw=2) (hi:onI W H i=true) (hd:∀ z ∈ p,0≤z∧z≤5) (hp:RdI w v p) (hl:p.length≤9) :
  Calls Tryz.prog 150 #[bv (.slice At nt ct) (.slice Ak nk ck) a b c d e W H x r y,.int .i64 (k:Int),.int .i64 tw,.int .i64 i,v] w fun e' w'=>e'=.returned (.int .i64 (csR (stp l lt lr ld W H b c k tw) W i p 0))∧Kp w w':=by
 have KA:Kp w (w.alloc (.cells #[.slice At nt ct,.slice Ak nk ck,.int .i64 a,.int .i64 b,.int .i64 c,.int .i64 d,.int .i64 e,.int .i64 W,.int .i64 H,x,r,y] 47)):=(Kp.refl w).alloc _
 have s0:cb12 (w.alloc (.cells #[.slice At nt ct,.slice Ak nk ck,.int .i64 a,.int .i64 b,.int .i64 c,.int .i64 d,.int .i64 e,.int .i64 W,.int .i64 H,x,r,y] 47)) (w.heap.size) (.slice At nt ct) (.slice Ak nk ck) (.int .i64 a) (.int .i64 b) (.int .i64 c) (.int .i64 d) (.int .i64 e) (.int .i64 W) (.int .i64 H) (x) (r) (y) (Kp w (w.alloc (.cells #[.slice At nt ct,.slice Ak nk ck,.int .i64 a,.int .i64 b,.int .i64 c,.int .i64 d,.int .i64 e,.int .i64 W,.int .i64 H,x,r,y] 47))):=⟨by simp [go_sem],by simp [go_sem],by simp [go_sem],by simp [go_sem],by simp [go_sem],by simp [go_sem],by simp [go_sem],by simp [go_sem],by simp [go_sem],by simp [go_sem],by simp [go_sem],by simp [go_sem],KA⟩
 have HB:=Lib.hid hB
 obtain⟨g1,g2,g3,g4⟩:=mapOk_side (brdOk_map hok)
 have HFB0:Hid (∀ i d,0≤stp l lt lr ld W H b c k tw i d∧stp l lt lr ld W H b c k tw i d≤20):=Lib.hid (stp_bd hok hk hw)
 have HFN0:Hid (∀ i d,stp l lt lr ld W H b c k tw i d ≠ 0→nbB W H i d=true):=Lib.hid fun i d h=>stp_nb h
 obtain⟨F,hF⟩:∃ F:Int→Int→Int,F=stp l lt lr ld W H b c k tw:=⟨_,rfl⟩
 have CS:Hid (∀ (i dd:Int) w,onI W H i=true→0≤dd∧dd≤5→BrdAt w At Ak nt nk l m x r y lt lr ld→Calls Tryz.prog 197 #[bv (.slice At nt ct) (.slice Ak nk ck) a b c d e W H x r y,.int .i64 (k:Int),.int .i64 i,.int .i64 dd,.int .i64 tw] w fun e' w'=>e'=.returned (.int .i64 (F i dd))∧Kp w w'):=Lib.hid fun i dd w h1 h2 hB=>by
  rw [hF]
  exact cStep_any At Ak nt nk ct ck l m a b c d e W H x r y lt lr ld k tw i dd w hB hok hk hw h1 h2
 rw [← hF]
 have HFB:Hid (∀ i d,0≤F i d∧F i d≤20):=Lib.hid (by rw [hF];exact HFB0.out)
 have HFN:Hid (∀ i d,F i d ≠ 0→nbB W H i d=true):=Lib.hid (by rw [hF];exact HFN0.out)
 have CN:Hid (∀ (I z:Int) w,nbB W H I z=true→Calls Tryz.prog 123 #[mp W H x r y,.int .i64 I,.int .i64 z] w fun e w'=>e=.returned (.int .i64 (nbI W I z))∧Kp w w'):=Lib.hid fun I z w hn=>by
  obtain⟨⟨i0,i1⟩,⟨z0,z5⟩,_,_⟩:=nbB_true hn
  have h:=mNext_any W H x r y I z w g1 g2 g3 g4 i0 i1 z0 z5
  have e1:nbM W H I z=true:=by simp only [nbB,Bool.and_eq_true] at hn;exact hn.2.2
  rw [e1,orNo_true] at h
  exact h
 have HI0:=Lib.hid hi
 have HD:=Lib.hid hd
 obtain⟨A,cp,rfl,hc⟩:=hp
 have HC:=Lib.hid hc
 have HLN:=Lib.hid hl
 obtain⟨n,hn⟩:∃ n,n=p.length:=⟨_,rfl⟩
 have HN:=Lib.hid hn
 rw [← hn] at hl HC ⊢
 obtain⟨R,hR⟩:∃ R,R=csR F W i p 0:=⟨_,rfl⟩
 rw [← hR]
 have HR:=Lib.hid hR
 clear hB hok hk hw hF hi hd hc hn hR HFB0 HFN0
 go_enter Tryz.func150,Tryz.ntmps150
 go_wp2_with fail
 generalize (w.alloc (.cells #[.slice At nt ct,.slice Ak nk ck,.int .i64 a,.int .i64 b,.int .i64 c,.int .i64 d,.int .i64 e,.int .i64 W,.int .i64 H,x,r,y] 47))=W0 at *
 go_loopw [3,11,13,14,17] (fun si ss _ _ sq wx=>∃ q:Nat,q≤n∧sq=.int .i64 q∧∃ I S:Int,si=.int .i64 I∧ss=.int .i64 S∧(0≤S∧S≤20*q)∧Hid (R=csR F W I (p.drop q) S)∧Hid (onI W H I=true)∧Kp W0 wx) (fun _ _ _ _ sq _=>n - (intOf sq).toNat)
 case atStart=>exact⟨0,by omega,rfl,i,0,rfl,rfl,by omega,Lib.hid (by rw [List.drop_zero];exact HR.out),HI0,Kp.refl _⟩
 case round =>
  obtain⟨q,hqn,rfl,I,S,rfl,rfl,hSb,HE,HI,kr⟩:=hrel
  have sr:=keepq12 kr s0
  by_cases hlt:q<n
  ·have hlt':(q:Int)<n:=by omega
   obtain⟨g,off,rfl,hc⟩:=HC.out (by omega)
   obtain⟨z,hz⟩:∃ z,p[q]?=some z:=⟨p[q]'(by have:=HN.out;omega),List.getElem?_eq_getElem _⟩
   have a0:=sr.2.2.2.2.2.2.2.2.2.2.2.2.cell (hc q z hz)
   have hzd:=HD.out z (List.mem_of_getElem? hz)
   have CQ:=Lib.hid (fun w=>CS.out I z w HI.out hzd)
   have HDR:Hid (p.drop q=z :: p.drop (q+1)):=Lib.hid (drop_at hz)
   have hq9:q≤9:=by have:=HLN.out;have:=HN.out;omega
   by_cases hx:F I z=0
   ·have HY:Hid (R=-1):=Lib.hid (by rw [HE.out,HDR.out,csR,if_pos hx])
    rw [hx] at CQ
    clear hc hz hx hzd
    go_wp2_with fail
    refine(CQ.out _ (HB.out.keep sr.2.2.2.2.2.2.2.2.2.2.2.2)).mono ?_
    rintro e3 w3 ⟨rfl,k3⟩
    go_wp2_with fail
    go_ret
    exact⟨ret_int HY.out.symm,sr.2.2.2.2.2.2.2.2.2.2.2.2.trans k3⟩
   ·have HY:Hid (R=csR F W (nbI W I z) (p.drop (q+1)) (S+F I z)):=Lib.hid (by rw [HE.out,HDR.out,csR,if_neg hx])
    have hnb:=HFN.out I z hx
    have CQN:=Lib.hid (fun w=>CN.out I z w hnb)
    have HI2:Hid (onI W H (nbI W I z)=true):=Lib.hid (nb_onI hnb)
    have hb:=HFB.out I z
    have hx1:(F I z == 0)=false:=by simp [hx]
    generalize F I z=X at *
    generalize nbI W I z=J at *
    have e0:IntKind.i64.wrap (S+X)=S+X:=IntWalk.i64_in _ (by omega)
    clear hc hz hzd hnb
    go_wp2_with fail
    refine(CQ.out _ (HB.out.keep sr.2.2.2.2.2.2.2.2.2.2.2.2)).mono ?_
    rintro e3 w3 ⟨rfl,k3⟩
    have k30:=kr.trans k3
    have s3:=keepq12 k3 sr
    clear sr k3 kr a0
    go_wp2_with fail
    refine(CQN.out _).mono ?_
    rintro e4 w4 ⟨rfl,k4⟩
    have k40:=k30.trans k4
    clear s3 k4 k30
    go_wp2_with fail
    go_roundw
    case rel=>exact⟨q+1,by omega,by go_num,J,S+X,rfl,rfl,by omega,HY,HI2,k40⟩
    case measure=>simp [intOf];omega
  ·obtain rfl:q=n:=by omega
   have HY:Hid (S=R):=Lib.hid (by rw [HE.out,List.drop_of_length_le (Nat.le_of_eq HN.out.symm)];rfl)
   go_wp2_with fail
   go_ret
   exact⟨ret_int HY.out,sr.2.2.2.2.2.2.2.2.2.2.2.2⟩
end Go.Proofs.YtacgknllagdkoaaGreatDoor
