/-
 AttacksOn of both sides: the units whose orders attack a hex. In memory of their own; nothing that was there is changed. The named variables hold what the program's text lays.
-/
import Derived.Test.YtacgknllagdkoaaGreatDoorOrG
import Derived.Test.YtacgknllagdkoaaGreatDoorOrH
import Derived.StillTailTactics
import Derived.Deep.Cut
import Derived.Maps.AppendAt
import Derived.Test.YtacgknllagdkoaaGreatDoorQa
import Derived.Test.YtacgknllagdkoaaGreatDoorQe
import Derived.Test.YtacgknllagdkoaaGreatDoorQa
namespace Go.Proofs.YtacgknllagdkoaaGreatDoor
open Go.RowKit
theorem keepk17 {W0 w w1:World} {p0 p1 p2 p3 p4 p5 p6 p7 p8 p9 p10 p11 p12 p13 p14 p15 p16:Addr} {v0 v1 v2 v3 v4 v5 v6 v7 v8 v9 v10 v11 v12 v13 v14 v15 v16:Value} (k:Kp w w1) (h:w.cell? p0=some v0∧w.cell? p1=some v1∧w.cell? p2=some v2∧w.cell? p3=some v3∧w.cell? p4=some v4∧w.cell? p5=some v5∧w.cell? p6=some v6∧w.cell? p7=some v7∧w.cell? p8=some v8∧w.cell? p9=some v9∧w.cell? p10=some v10∧w.cell? p11=some v11∧w.cell? p12=some v12∧w.cell? p13=some v13∧w.cell? p14=some v14∧w.cell? p15=some v15∧w.cell? p16=some v16∧Kp W0 w):w1.cell? p0=some v0∧w1.cell? p1=some v1∧w1.cell? p2=some v2∧w1.cell? p3=some v3∧w1.cell? p4=some v4∧w1.cell? p5=some v5∧w1.cell? p6=some v6∧w1.cell? p7=some v7∧w1.cell? p8=some v8∧w1.cell? p9=some v9∧w1.cell? p10=some v10∧w1.cell? p11=some v11∧w1.cell? p12=some v12∧w1.cell? p13=some v13∧w1.cell? p14=some v14∧w1.cell? p15=some v15∧w1.cell? p16=some v16∧Kp W0 w1 :=
 ⟨k.cell h.1,k.cell h.2.1,k.cell h.2.2.1,k.cell h.2.2.2.1,k.cell h.2.2.2.2.1,k.cell h.2.2.2.2.2.1,k.cell h.2.2.2.2.2.2.1,k.cell h.2.2.2.2.2.2.2.1,k.cell h.2.2.2.2.2.2.2.2.1,k.cell h.2.2.2.2.2.2.2.2.2.1,k.cell h.2.2.2.2.2.2.2.2.2.2.1,k.cell h.2.2.2.2.2.2.2.2.2.2.2.1,k.cell h.2.2.2.2.2.2.2.2.2.2.2.2.1,k.cell h.2.2.2.2.2.2.2.2.2.2.2.2.2.1,k.cell h.2.2.2.2.2.2.2.2.2.2.2.2.2.2.1,k.cell h.2.2.2.2.2.2.2.2.2.2.2.2.2.2.2.1,k.cell h.2.2.2.2.2.2.2.2.2.2.2.2.2.2.2.2.1,h.2.2.2.2.2.2.2.2.2.2.2.2.2.2.2.2.2.trans k⟩
/-- The units of the orders that attack a hex. -/
def attL (i:Int):List Odr→List Int
 | []=>[]
 | x :: l=>if x.a=i then x.u :: attL i l else attL i l
theorem attL_app (i:Int) (x:Odr):∀ l:List Odr,attL i (l++[x])=attL i l++(if x.a=i then [x.u] else [])
 | []=>by simp only [List.nil_append,attL]
 | y :: l=>by
  simp only [List.cons_append,attL,attL_app i x l]
  split <;> simp
theorem attL_len (i:Int):∀ l:List Odr,(attL i l).length≤l.length
 | []=>by simp [attL]
 | y :: l=>by
  have:=attL_len i l
  unfold attL
  split <;> simp only [List.length_cons] <;> omega
theorem attL_yes {i:Int} {l:List Odr} {q:Nat} {x:Odr} (h:l[q]?=some x) (hx:x.a=i):attL i (l.take (q+1))=attL i (l.take q)++[x.u]:=by
 rw [List.take_add_one,h]
 show attL i (l.take q++[x])=_
 rw [attL_app,if_pos hx]
theorem attL_no {i:Int} {l:List Odr} {q:Nat} {x:Odr} (h:l[q]?=some x) (hx:x.a ≠ i):attL i (l.take (q+1))=attL i (l.take q):=by
 rw [List.take_add_one,h]
 show attL i (l.take q++[x])=_
 rw [attL_app,if_neg hx,List.append_nil]
set_option maxRecDepth 100000 in
set_option maxHeartbeats 4000000 in
theorem attacksOnP_any (At Ak:Option Addr) (nt nk ct ck:Nat) (l:List Ter) (m:List Knd) (a b c d e W H:Int) (x r y:Value) (lt lr ld:List Int) (T Z:Int) (u:Value) (us:List Uni) (sd i:Int) (v:Value) (xs:List Odr) (a1 a2 a3 a4 a5:Addr) (w:World) (hs:Spans w) (ht:Tab w) (hu:SpU w) (he:Errs w a1 a2 a3 a4 a5) (hB:BrdAt w At Ak nt nk l m x r y lt lr ld) (hS:StaAt w u us) (hx:SheAt w v xs) (hsm:smO xs) :
  Calls Tryz.prog 46 #[bv (.slice At nt ct) (.slice Ak nk ck) a b c d e W H x r y,sv T Z u,hv sd v,.int .i64 i] w (ListPostI (((brdOk ⟨l,m,a,b,c,d,e⟩ W H lt lr ld && staOk ⟨l,m,a,b,c,d,e⟩ W H lt T Z us) && shtB (ordG l m lt lr ld W H b c Z us sd) sd xs) && onI W H i) (attL i xs) w):=by
 obtain⟨A,co,rfl,hr⟩:=hx
 have HX:=Lib.hid hr.2
 have HSM:=Lib.hid hsm
 have HSP:=Lib.hid hs
 have HT:=Lib.hid ht
 have HU:=Lib.hid hu
 have HE:=Lib.hid he
 have HB:=Lib.hid hB
 have HS:=Lib.hid hS
 have CG:=Lib.hid (fun (w:World) hs ht hu he hB hS hr=>isSheetOn_any At Ak nt nk ct ck l m a b c d e W H x r y lt lr ld T Z u us sd (.slice A xs.length co) xs a1 a2 a3 a4 a5 w hs ht hu he hB hS hr hsm)
 have HXX:Hid (SheAt w (.slice A xs.length co) xs):=Lib.hid ⟨A,co,rfl,hr⟩
 have hhr:=hr
 obtain⟨n,hn⟩:∃ n,n=xs.length:=⟨_,rfl⟩
 have HLN:=Lib.hid hn
 rw [← hn] at HX CG HXX ⊢
 have KA:Kp w (((w.alloc (.cells #[.slice At nt ct,.slice Ak nk ck,.int .i64 a,.int .i64 b,.int .i64 c,.int .i64 d,.int .i64 e,.int .i64 W,.int .i64 H,x,r,y] 47)).alloc (.cells #[.int .i64 T,.int .i64 Z,u] 51)).alloc (.cells #[.int .i64 sd,.slice A n co] 67)):=((((Kp.refl w).alloc _).alloc _).alloc _)
 have s0:cb12 (((w.alloc (.cells #[.slice At nt ct,.slice Ak nk ck,.int .i64 a,.int .i64 b,.int .i64 c,.int .i64 d,.int .i64 e,.int .i64 W,.int .i64 H,x,r,y] 47)).alloc (.cells #[.int .i64 T,.int .i64 Z,u] 51)).alloc (.cells #[.int .i64 sd,.slice A n co] 67)) (w.heap.size) (.slice At nt ct) (.slice Ak nk ck) (.int .i64 a) (.int .i64 b) (.int .i64 c) (.int .i64 d) (.int .i64 e) (.int .i64 W) (.int .i64 H) (x) (r) (y) (cb3 (((w.alloc (.cells #[.slice At nt ct,.slice Ak nk ck,.int .i64 a,.int .i64 b,.int .i64 c,.int .i64 d,.int .i64 e,.int .i64 W,.int .i64 H,x,r,y] 47)).alloc (.cells #[.int .i64 T,.int .i64 Z,u] 51)).alloc (.cells #[.int .i64 sd,.slice A n co] 67)) (w.heap.size+1) (.int .i64 T) (.int .i64 Z) (u) (cb2 (((w.alloc (.cells #[.slice At nt ct,.slice Ak nk ck,.int .i64 a,.int .i64 b,.int .i64 c,.int .i64 d,.int .i64 e,.int .i64 W,.int .i64 H,x,r,y] 47)).alloc (.cells #[.int .i64 T,.int .i64 Z,u] 51)).alloc (.cells #[.int .i64 sd,.slice A n co] 67)) (w.heap.size+1+1) (.int .i64 sd) (.slice A n co) (Kp w (((w.alloc (.cells #[.slice At nt ct,.slice Ak nk ck,.int .i64 a,.int .i64 b,.int .i64 c,.int .i64 d,.int .i64 e,.int .i64 W,.int .i64 H,x,r,y] 47)).alloc (.cells #[.int .i64 T,.int .i64 Z,u] 51)).alloc (.cells #[.int .i64 sd,.slice A n co] 67))))):=⟨by simp [go_sem],by simp [go_sem],by simp [go_sem],by simp [go_sem],by simp [go_sem],by simp [go_sem],by simp [go_sem],by simp [go_sem],by simp [go_sem],by simp [go_sem],by simp [go_sem],by simp [go_sem],by simp [go_sem],by simp [go_sem],by simp [go_sem],by simp [go_sem],by simp [go_sem],KA⟩
 have hn1:n≤1048576:=by rw [hn];exact hsm.1
 have hz0w:(((w.alloc (.cells #[.slice At nt ct,.slice Ak nk ck,.int .i64 a,.int .i64 b,.int .i64 c,.int .i64 d,.int .i64 e,.int .i64 W,.int .i64 H,x,r,y] 47)).alloc (.cells #[.int .i64 T,.int .i64 Z,u] 51)).alloc (.cells #[.int .i64 sd,.slice A n co] 67)).heap.size=w.heap.size+3:=by simp
 clear hs ht hu he hB hS hr hhr hsm hn KA
 cases hg:(brdOk ⟨l,m,a,b,c,d,e⟩ W H lt lr ld && staOk ⟨l,m,a,b,c,d,e⟩ W H lt T Z us) && shtB (ordG l m lt lr ld W H b c Z us sd) sd xs
 ·rw [hg] at CG
  rw [Bool.false_and]
  clear hg
  go_enter Tryz.func46,Tryz.ntmps46
  go_wp2_with fail
  refine(CG.out _ (HSP.out.keep s0.2.2.2.2.2.2.2.2.2.2.2.2.2.2.2.2.2) (HT.out.keep s0.2.2.2.2.2.2.2.2.2.2.2.2.2.2.2.2.2) (HU.out.keep s0.2.2.2.2.2.2.2.2.2.2.2.2.2.2.2.2.2) (HE.out.keep s0.2.2.2.2.2.2.2.2.2.2.2.2.2.2.2.2.2) (HB.out.keep s0.2.2.2.2.2.2.2.2.2.2.2.2.2.2.2.2.2) (HS.out.keep s0.2.2.2.2.2.2.2.2.2.2.2.2.2.2.2.2.2) (HXX.out.keep s0.2.2.2.2.2.2.2.2.2.2.2.2.2.2.2.2.2)).mono ?_
  rintro e1 w1 ⟨rfl,k1⟩
  have s1:=keepk17 k1 s0
  clear s0 k1
  go_wp2_with fail
  go_ret2
  exact ListPostI.no s1.2.2.2.2.2.2.2.2.2.2.2.2.2.2.2.2.2
 ·rw [hg] at CG
  rw [Bool.true_and]
  have hg2:=hg
  simp only [Bool.and_eq_true] at hg2
  obtain⟨p1,p2,p3,p4⟩:=mapOk_side (brdOk_map hg2.1.1)
  obtain⟨j0,hj0,hz0,hs0,hb0⟩:=info_parts infoInt
  have CIX:Hid (∀ w,Calls Tryz.prog 103 #[mp W H x r y,.int .i64 i] w fun e' w'=>e'=.returned (.bool (onI W H i))∧Kp w w'):=Lib.hid fun w=>isIndex_any W H x r y i w p1 p2 p3 p4
  cases hi:onI W H i
  ·rw [hi] at CIX
   clear hi hg hg2
   go_enter Tryz.func46,Tryz.ntmps46
   go_wp2_with fail
   refine(CG.out _ (HSP.out.keep s0.2.2.2.2.2.2.2.2.2.2.2.2.2.2.2.2.2) (HT.out.keep s0.2.2.2.2.2.2.2.2.2.2.2.2.2.2.2.2.2) (HU.out.keep s0.2.2.2.2.2.2.2.2.2.2.2.2.2.2.2.2.2) (HE.out.keep s0.2.2.2.2.2.2.2.2.2.2.2.2.2.2.2.2.2) (HB.out.keep s0.2.2.2.2.2.2.2.2.2.2.2.2.2.2.2.2.2) (HS.out.keep s0.2.2.2.2.2.2.2.2.2.2.2.2.2.2.2.2.2) (HXX.out.keep s0.2.2.2.2.2.2.2.2.2.2.2.2.2.2.2.2.2)).mono ?_
   rintro e1 w1 ⟨rfl,k1⟩
   have s1:=keepk17 k1 s0
   clear s0 k1
   go_wp2_with fail
   refine(CIX.out _).mono ?_
   rintro e2 w2 ⟨rfl,k2⟩
   have s2:=keepk17 k2 s1
   clear s1 k2
   go_wp2_with fail
   go_ret2
   exact ListPostI.no s2.2.2.2.2.2.2.2.2.2.2.2.2.2.2.2.2.2
  ·rw [hi] at CIX
   clear hi hg hg2
   go_enter Tryz.func46,Tryz.ntmps46
   go_wp2_with fail
   refine(CG.out _ (HSP.out.keep s0.2.2.2.2.2.2.2.2.2.2.2.2.2.2.2.2.2) (HT.out.keep s0.2.2.2.2.2.2.2.2.2.2.2.2.2.2.2.2.2) (HU.out.keep s0.2.2.2.2.2.2.2.2.2.2.2.2.2.2.2.2.2) (HE.out.keep s0.2.2.2.2.2.2.2.2.2.2.2.2.2.2.2.2.2) (HB.out.keep s0.2.2.2.2.2.2.2.2.2.2.2.2.2.2.2.2.2) (HS.out.keep s0.2.2.2.2.2.2.2.2.2.2.2.2.2.2.2.2.2) (HXX.out.keep s0.2.2.2.2.2.2.2.2.2.2.2.2.2.2.2.2.2)).mono ?_
   rintro e1 w1 ⟨rfl,k1⟩
   have s1:=keepk17 k1 s0
   clear s0 k1
   go_wp2_with fail
   refine(CIX.out _).mono ?_
   rintro e2 w2 ⟨rfl,k2⟩
   have s2:=keepk17 k2 s1
   clear s1 k2
   go_wp2_with fail
   have s3:=s2
   clear s2
   generalize hWL:w2=WL at *
   go_loopw [10,12,28] (fun vv _ sq wx=>∃ q:Nat,q≤n∧sq=.int .i64 q∧Hid (OwnI wx WL.heap.size vv (attL i (xs.take q)))∧Kp WL wx) (fun _ _ sq _=>n - (intOf sq).toNat)
   case atStart=>exact⟨0,by omega,rfl,Lib.hid (by rw [List.take_zero];exact OwnI.nil _ _),Kp.refl _⟩
   case round =>
    obtain⟨q,hqn,rfl,HO,kr⟩:=hrel
    have sr:=keepk17 kr s3
    by_cases hlt:q<n
    ·have hlt':(q:Int)<n:=by omega
     obtain⟨g,off,rfl,hc⟩:=HX.out (by omega)
     obtain⟨z,hz⟩:∃ z,xs[q]?=some z:=⟨xs[q]'(by have:=HLN.out;omega),List.getElem?_eq_getElem _⟩
     obtain⟨Ao,cx,⟨a0w,a1w,a2w⟩,_⟩:=hc q z hz
     have q0:=sr.2.2.2.2.2.2.2.2.2.2.2.2.2.2.2.2.2.cell a0w
     have q1:=sr.2.2.2.2.2.2.2.2.2.2.2.2.2.2.2.2.2.cell a1w
     have q2:=sr.2.2.2.2.2.2.2.2.2.2.2.2.2.2.2.2.2.cell a2w
     have HZ:=Lib.hid hz
     have hcq:Hid ((attL i (xs.take q)).length≤1048576):=Lib.hid (by have h1:=attL_len i (xs.take q);have h2:=List.length_take_le q xs;have h3:=HSM.out.1;have h4:(xs.take q).length≤xs.length:=List.length_take_le' q xs;omega)
     clear hc hz a0w a1w a2w
     obtain⟨ux,px,ax⟩:=z
     simp only at q0 q1 q2
     generalize px.length=np at q1
     by_cases ha:ax=i
     ·have HY:Hid (attL i (xs.take (q+1))=attL i (xs.take q)++[ux]):=Lib.hid (attL_yes HZ.out ha)
      subst ha
      go_upto_region 7 with (fail)
      have k5:Kp wr (wr.alloc (.cells #[.int .i64 ux,.slice Ao np cx,.int .i64 ax] 53)):=((Kp.refl wr).alloc _)
      have s5:cb12 (wr.alloc (.cells #[.int .i64 ux,.slice Ao np cx,.int .i64 ax] 53)) (w.heap.size) (.slice At nt ct) (.slice Ak nk ck) (.int .i64 a) (.int .i64 b) (.int .i64 c) (.int .i64 d) (.int .i64 e) (.int .i64 W) (.int .i64 H) (x) (r) (y) (cb3 (wr.alloc (.cells #[.int .i64 ux,.slice Ao np cx,.int .i64 ax] 53)) (w.heap.size+1) (.int .i64 T) (.int .i64 Z) (u) (cb2 (wr.alloc (.cells #[.int .i64 ux,.slice Ao np cx,.int .i64 ax] 53)) (w.heap.size+1+1) (.int .i64 sd) (.slice (some ⟨g,off,none⟩) n co) (cb3 (wr.alloc (.cells #[.int .i64 ux,.slice Ao np cx,.int .i64 ax] 53)) (wr.heap.size) (.int .i64 ux) (.slice Ao np cx) (.int .i64 ax) (Kp w (wr.alloc (.cells #[.int .i64 ux,.slice Ao np cx,.int .i64 ax] 53)))))):=⟨k5.cell sr.1,k5.cell sr.2.1,k5.cell sr.2.2.1,k5.cell sr.2.2.2.1,k5.cell sr.2.2.2.2.1,k5.cell sr.2.2.2.2.2.1,k5.cell sr.2.2.2.2.2.2.1,k5.cell sr.2.2.2.2.2.2.2.1,k5.cell sr.2.2.2.2.2.2.2.2.1,k5.cell sr.2.2.2.2.2.2.2.2.2.1,k5.cell sr.2.2.2.2.2.2.2.2.2.2.1,k5.cell sr.2.2.2.2.2.2.2.2.2.2.2.1,k5.cell sr.2.2.2.2.2.2.2.2.2.2.2.2.1,k5.cell sr.2.2.2.2.2.2.2.2.2.2.2.2.2.1,k5.cell sr.2.2.2.2.2.2.2.2.2.2.2.2.2.2.1,k5.cell sr.2.2.2.2.2.2.2.2.2.2.2.2.2.2.2.1,k5.cell sr.2.2.2.2.2.2.2.2.2.2.2.2.2.2.2.2.1,by simp [go_sem],by simp [go_sem],by simp [go_sem],sr.2.2.2.2.2.2.2.2.2.2.2.2.2.2.2.2.2.trans k5⟩
      have k50:=kr.trans k5
      have HO5:=Lib.hid (HO.out.keep k5)
      clear k5 sr q0 q1 q2 kr HO
      generalize (wr.alloc (.cells #[.int .i64 ux,.slice Ao np cx,.int .i64 ax] 53))=W5 at *
      have hsz:=k50.size
      go_wp2_with (at_builtin;refine wpList_append_own_at _ rfl (.tmp 36) (.tmp 39) 26 rfl (WL.heap.size) 3 j0 (.int .i64 0) 1 8 Tryz.underlying26 hj0 hz0 hs0 hb0 rfl (by decide) _ (attL ax (xs.take q)).length (cellsI (attL ax (xs.take q))) rfl (World.ownsRow.alloc HO5.out _) ⟨W5.heap.size,0,none⟩ 1 1 [.int .i64 ux] rfl rfl (one_cell _ _ _) (by simp [Value.oneCell']) (by have:=hcq.out;simp only [maxLen];omega) (by have:=hcq.out;omega) (by simp;omega) ?_;intro v' w9 hown2 hgrow2 hnil2 hat2;clear hnil2 hat2;have K9:Kp WL w9:=(k50.alloc _).grown hgrow2 (fun k e=>by have:=(World.ownsRow.lt HO5.out k e).1;omega);have O9:=Lib.hid (OwnI.snoc (x:=ux) hown2);clear hown2 hgrow2)
      go_roundw
      case rel=>exact⟨q+1,by omega,by go_num,Lib.hid (by rw [HY.out];exact O9.out),K9⟩
      case measure=>simp [intOf];omega
     ·have HY:Hid (attL i (xs.take (q+1))=attL i (xs.take q)):=Lib.hid (attL_no HZ.out ha)
      have hd:(ax == i)=false:=by simpa using ha
      go_upto_region 7 with (fail)
      have k5:Kp wr (wr.alloc (.cells #[.int .i64 ux,.slice Ao np cx,.int .i64 ax] 53)):=((Kp.refl wr).alloc _)
      have s5:cb12 (wr.alloc (.cells #[.int .i64 ux,.slice Ao np cx,.int .i64 ax] 53)) (w.heap.size) (.slice At nt ct) (.slice Ak nk ck) (.int .i64 a) (.int .i64 b) (.int .i64 c) (.int .i64 d) (.int .i64 e) (.int .i64 W) (.int .i64 H) (x) (r) (y) (cb3 (wr.alloc (.cells #[.int .i64 ux,.slice Ao np cx,.int .i64 ax] 53)) (w.heap.size+1) (.int .i64 T) (.int .i64 Z) (u) (cb2 (wr.alloc (.cells #[.int .i64 ux,.slice Ao np cx,.int .i64 ax] 53)) (w.heap.size+1+1) (.int .i64 sd) (.slice (some ⟨g,off,none⟩) n co) (cb3 (wr.alloc (.cells #[.int .i64 ux,.slice Ao np cx,.int .i64 ax] 53)) (wr.heap.size) (.int .i64 ux) (.slice Ao np cx) (.int .i64 ax) (Kp w (wr.alloc (.cells #[.int .i64 ux,.slice Ao np cx,.int .i64 ax] 53)))))):=⟨k5.cell sr.1,k5.cell sr.2.1,k5.cell sr.2.2.1,k5.cell sr.2.2.2.1,k5.cell sr.2.2.2.2.1,k5.cell sr.2.2.2.2.2.1,k5.cell sr.2.2.2.2.2.2.1,k5.cell sr.2.2.2.2.2.2.2.1,k5.cell sr.2.2.2.2.2.2.2.2.1,k5.cell sr.2.2.2.2.2.2.2.2.2.1,k5.cell sr.2.2.2.2.2.2.2.2.2.2.1,k5.cell sr.2.2.2.2.2.2.2.2.2.2.2.1,k5.cell sr.2.2.2.2.2.2.2.2.2.2.2.2.1,k5.cell sr.2.2.2.2.2.2.2.2.2.2.2.2.2.1,k5.cell sr.2.2.2.2.2.2.2.2.2.2.2.2.2.2.1,k5.cell sr.2.2.2.2.2.2.2.2.2.2.2.2.2.2.2.1,k5.cell sr.2.2.2.2.2.2.2.2.2.2.2.2.2.2.2.2.1,by simp [go_sem],by simp [go_sem],by simp [go_sem],sr.2.2.2.2.2.2.2.2.2.2.2.2.2.2.2.2.2.trans k5⟩
      have k50:=kr.trans k5
      have HO5:=Lib.hid (HO.out.keep k5)
      clear k5 sr q0 q1 q2 kr HO
      generalize (wr.alloc (.cells #[.int .i64 ux,.slice Ao np cx,.int .i64 ax] 53))=W5 at *
      have hsz:=k50.size
      go_wp2_with fail
      go_roundw
      case rel=>exact⟨q+1,by omega,by go_num,Lib.hid (by rw [HY.out];exact HO5.out),k50⟩
      case measure=>simp [intOf];omega
    ·obtain rfl:q=n:=by omega
     have HST:Hid (attL i (xs.take q)=attL i xs):=Lib.hid (by rw [HLN.out,List.take_length])
     have hz9:=s3.2.2.2.2.2.2.2.2.2.2.2.2.2.2.2.2.2.size
     have o9:=HO.out.base (b:=w.heap.size) (by omega)
     rw [HST.out] at o9
     have O9:=Lib.hid o9
     clear o9 HO
     go_wp2_with fail
     go_ret2
     exact⟨_,rfl,O9.out,sr.2.2.2.2.2.2.2.2.2.2.2.2.2.2.2.2.2⟩
set_option maxRecDepth 100000 in
set_option maxHeartbeats 4000000 in
theorem specAttacksOn_any (At Ak:Option Addr) (nt nk ct ck:Nat) (l:List Ter) (m:List Knd) (a b c d e W H:Int) (x r y:Value) (lt lr ld:List Int) (T Z:Int) (u:Value) (us:List Uni) (sd i:Int) (v:Value) (xs:List Odr) (w:World) (hB:BrdAt w At Ak nt nk l m x r y lt lr ld) (hS:StaAt w u us) (hx:SheAt w v xs) (hsm:smO xs) :
  Calls Tryz.prog 45 #[bv (.slice At nt ct) (.slice Ak nk ck) a b c d e W H x r y,sv T Z u,hv sd v,.int .i64 i] w (ListPostI (((brdOk ⟨l,m,a,b,c,d,e⟩ W H lt lr ld && staOk ⟨l,m,a,b,c,d,e⟩ W H lt T Z us) && shtB (ordG l m lt lr ld W H b c Z us sd) sd xs) && onI W H i) (attL i xs) w):=by
 obtain⟨A,co,rfl,hr⟩:=hx
 have HX:=Lib.hid hr.2
 have HSM:=Lib.hid hsm
 have HB:=Lib.hid hB
 have HS:=Lib.hid hS
 have CG:=Lib.hid (fun (w:World) hB hS hr=>oGood_any At Ak nt nk ct ck l m a b c d e W H x r y lt lr ld T Z u us sd (.slice A xs.length co) xs w hB hS hr hsm)
 have HXX:Hid (SheAt w (.slice A xs.length co) xs):=Lib.hid ⟨A,co,rfl,hr⟩
 have hhr:=hr
 obtain⟨n,hn⟩:∃ n,n=xs.length:=⟨_,rfl⟩
 have HLN:=Lib.hid hn
 rw [← hn] at HX CG HXX ⊢
 have KA:Kp w (((w.alloc (.cells #[.slice At nt ct,.slice Ak nk ck,.int .i64 a,.int .i64 b,.int .i64 c,.int .i64 d,.int .i64 e,.int .i64 W,.int .i64 H,x,r,y] 47)).alloc (.cells #[.int .i64 T,.int .i64 Z,u] 51)).alloc (.cells #[.int .i64 sd,.slice A n co] 67)):=((((Kp.refl w).alloc _).alloc _).alloc _)
 have s0:cb12 (((w.alloc (.cells #[.slice At nt ct,.slice Ak nk ck,.int .i64 a,.int .i64 b,.int .i64 c,.int .i64 d,.int .i64 e,.int .i64 W,.int .i64 H,x,r,y] 47)).alloc (.cells #[.int .i64 T,.int .i64 Z,u] 51)).alloc (.cells #[.int .i64 sd,.slice A n co] 67)) (w.heap.size) (.slice At nt ct) (.slice Ak nk ck) (.int .i64 a) (.int .i64 b) (.int .i64 c) (.int .i64 d) (.int .i64 e) (.int .i64 W) (.int .i64 H) (x) (r) (y) (cb3 (((w.alloc (.cells #[.slice At nt ct,.slice Ak nk ck,.int .i64 a,.int .i64 b,.int .i64 c,.int .i64 d,.int .i64 e,.int .i64 W,.int .i64 H,x,r,y] 47)).alloc (.cells #[.int .i64 T,.int .i64 Z,u] 51)).alloc (.cells #[.int .i64 sd,.slice A n co] 67)) (w.heap.size+1) (.int .i64 T) (.int .i64 Z) (u) (cb2 (((w.alloc (.cells #[.slice At nt ct,.slice Ak nk ck,.int .i64 a,.int .i64 b,.int .i64 c,.int .i64 d,.int .i64 e,.int .i64 W,.int .i64 H,x,r,y] 47)).alloc (.cells #[.int .i64 T,.int .i64 Z,u] 51)).alloc (.cells #[.int .i64 sd,.slice A n co] 67)) (w.heap.size+1+1) (.int .i64 sd) (.slice A n co) (Kp w (((w.alloc (.cells #[.slice At nt ct,.slice Ak nk ck,.int .i64 a,.int .i64 b,.int .i64 c,.int .i64 d,.int .i64 e,.int .i64 W,.int .i64 H,x,r,y] 47)).alloc (.cells #[.int .i64 T,.int .i64 Z,u] 51)).alloc (.cells #[.int .i64 sd,.slice A n co] 67))))):=⟨by simp [go_sem],by simp [go_sem],by simp [go_sem],by simp [go_sem],by simp [go_sem],by simp [go_sem],by simp [go_sem],by simp [go_sem],by simp [go_sem],by simp [go_sem],by simp [go_sem],by simp [go_sem],by simp [go_sem],by simp [go_sem],by simp [go_sem],by simp [go_sem],by simp [go_sem],KA⟩
 have hn1:n≤1048576:=by rw [hn];exact hsm.1
 have hz0w:(((w.alloc (.cells #[.slice At nt ct,.slice Ak nk ck,.int .i64 a,.int .i64 b,.int .i64 c,.int .i64 d,.int .i64 e,.int .i64 W,.int .i64 H,x,r,y] 47)).alloc (.cells #[.int .i64 T,.int .i64 Z,u] 51)).alloc (.cells #[.int .i64 sd,.slice A n co] 67)).heap.size=w.heap.size+3:=by simp
 clear hB hS hr hhr hsm hn KA
 cases hg:(brdOk ⟨l,m,a,b,c,d,e⟩ W H lt lr ld && staOk ⟨l,m,a,b,c,d,e⟩ W H lt T Z us) && shtB (ordG l m lt lr ld W H b c Z us sd) sd xs
 ·rw [hg] at CG
  rw [Bool.false_and]
  clear hg
  go_enter Tryz.func45,Tryz.ntmps45
  go_wp2_with fail
  refine(CG.out _ (HB.out.keep s0.2.2.2.2.2.2.2.2.2.2.2.2.2.2.2.2.2) (HS.out.keep s0.2.2.2.2.2.2.2.2.2.2.2.2.2.2.2.2.2) (HXX.out.keep s0.2.2.2.2.2.2.2.2.2.2.2.2.2.2.2.2.2)).mono ?_
  rintro e1 w1 ⟨rfl,k1⟩
  have s1:=keepk17 k1 s0
  clear s0 k1
  go_wp2_with fail
  go_ret2
  exact ListPostI.no s1.2.2.2.2.2.2.2.2.2.2.2.2.2.2.2.2.2
 ·rw [hg] at CG
  rw [Bool.true_and]
  have hg2:=hg
  simp only [Bool.and_eq_true] at hg2
  obtain⟨p1,p2,p3,p4⟩:=mapOk_side (brdOk_map hg2.1.1)
  obtain⟨j0,hj0,hz0,hs0,hb0⟩:=info_parts infoInt
  have CSZ:=Lib.hid (fun (w:World)=>mSize_any W H x r y w p1 p2 p3 p4)
  have CIX:Hid (∀ w,Calls Tryz.prog 63 #[.int .i64 i,.int .i64 0,.int .i64 (W*H - 1)] w fun e' w'=>e'=.returned (.bool (onI W H i))∧Kp w w'):=Lib.hid fun w=>by
   have e:spB 0 (W*H - 1) i=onI W H i:=by
    rw [Bool.eq_iff_iff]
    simp only [spB,onI,Bool.and_eq_true,decide_eq_true_iff]
    omega
   rw [← e]
   exact(l1In_sp i 0 (W*H - 1) w).mono fun _ _ h=>⟨h.1,h.2 ▸ Kp.refl _⟩
  have hA:=area_bd p1 p2 p3 p4
  have e0:IntKind.i64.wrap (W*H - 1)=W*H - 1:=IntWalk.i64_in _ (by omega)
  cases hi:onI W H i
  ·rw [hi] at CIX
   clear hi hg hg2
   go_enter Tryz.func45,Tryz.ntmps45
   go_wp2_with fail
   refine(CG.out _ (HB.out.keep s0.2.2.2.2.2.2.2.2.2.2.2.2.2.2.2.2.2) (HS.out.keep s0.2.2.2.2.2.2.2.2.2.2.2.2.2.2.2.2.2) (HXX.out.keep s0.2.2.2.2.2.2.2.2.2.2.2.2.2.2.2.2.2)).mono ?_
   rintro e1 w1 ⟨rfl,k1⟩
   have s1:=keepk17 k1 s0
   clear s0 k1
   go_wp2_with fail
   refine(CSZ.out _).mono ?_
   rintro e2 w2 ⟨rfl,k2⟩
   have s2:=keepk17 k2 s1
   clear s1 k2
   go_wp2_with fail
   refine(CIX.out _).mono ?_
   rintro e3 w3 ⟨rfl,k3⟩
   have s3:=keepk17 k3 s2
   clear s2 k3
   go_wp2_with fail
   go_ret2
   exact ListPostI.no s3.2.2.2.2.2.2.2.2.2.2.2.2.2.2.2.2.2
  ·rw [hi] at CIX
   clear hi hg hg2
   go_enter Tryz.func45,Tryz.ntmps45
   go_wp2_with fail
   refine(CG.out _ (HB.out.keep s0.2.2.2.2.2.2.2.2.2.2.2.2.2.2.2.2.2) (HS.out.keep s0.2.2.2.2.2.2.2.2.2.2.2.2.2.2.2.2.2) (HXX.out.keep s0.2.2.2.2.2.2.2.2.2.2.2.2.2.2.2.2.2)).mono ?_
   rintro e1 w1 ⟨rfl,k1⟩
   have s1:=keepk17 k1 s0
   clear s0 k1
   go_wp2_with fail
   refine(CSZ.out _).mono ?_
   rintro e2 w2 ⟨rfl,k2⟩
   have s2:=keepk17 k2 s1
   clear s1 k2
   go_wp2_with fail
   refine(CIX.out _).mono ?_
   rintro e3 w3 ⟨rfl,k3⟩
   have s3:=keepk17 k3 s2
   clear s2 k3
   go_wp2_with fail
   have s3:=s3
   clear s3
   generalize hWL:w3=WL at *
   go_loopw [10,12,30] (fun vv _ sq wx=>∃ q:Nat,q≤n∧sq=.int .i64 q∧Hid (OwnI wx WL.heap.size vv (attL i (xs.take q)))∧Kp WL wx) (fun _ _ sq _=>n - (intOf sq).toNat)
   case atStart=>exact⟨0,by omega,rfl,Lib.hid (by rw [List.take_zero];exact OwnI.nil _ _),Kp.refl _⟩
   case round =>
    obtain⟨q,hqn,rfl,HO,kr⟩:=hrel
    have sr:=keepk17 kr s3
    by_cases hlt:q<n
    ·have hlt':(q:Int)<n:=by omega
     obtain⟨g,off,rfl,hc⟩:=HX.out (by omega)
     obtain⟨z,hz⟩:∃ z,xs[q]?=some z:=⟨xs[q]'(by have:=HLN.out;omega),List.getElem?_eq_getElem _⟩
     obtain⟨Ao,cx,⟨a0w,a1w,a2w⟩,_⟩:=hc q z hz
     have q0:=sr.2.2.2.2.2.2.2.2.2.2.2.2.2.2.2.2.2.cell a0w
     have q1:=sr.2.2.2.2.2.2.2.2.2.2.2.2.2.2.2.2.2.cell a1w
     have q2:=sr.2.2.2.2.2.2.2.2.2.2.2.2.2.2.2.2.2.cell a2w
     have HZ:=Lib.hid hz
     have hcq:Hid ((attL i (xs.take q)).length≤1048576):=Lib.hid (by have h1:=attL_len i (xs.take q);have h2:=List.length_take_le q xs;have h3:=HSM.out.1;have h4:(xs.take q).length≤xs.length:=List.length_take_le' q xs;omega)
     clear hc hz a0w a1w a2w
     obtain⟨ux,px,ax⟩:=z
     simp only at q0 q1 q2
     generalize px.length=np at q1
     by_cases ha:ax=i
     ·have HY:Hid (attL i (xs.take (q+1))=attL i (xs.take q)++[ux]):=Lib.hid (attL_yes HZ.out ha)
      subst ha
      go_upto_region 7 with (fail)
      have k5:Kp wr (wr.alloc (.cells #[.int .i64 ux,.slice Ao np cx,.int .i64 ax] 53)):=((Kp.refl wr).alloc _)
      have s5:cb12 (wr.alloc (.cells #[.int .i64 ux,.slice Ao np cx,.int .i64 ax] 53)) (w.heap.size) (.slice At nt ct) (.slice Ak nk ck) (.int .i64 a) (.int .i64 b) (.int .i64 c) (.int .i64 d) (.int .i64 e) (.int .i64 W) (.int .i64 H) (x) (r) (y) (cb3 (wr.alloc (.cells #[.int .i64 ux,.slice Ao np cx,.int .i64 ax] 53)) (w.heap.size+1) (.int .i64 T) (.int .i64 Z) (u) (cb2 (wr.alloc (.cells #[.int .i64 ux,.slice Ao np cx,.int .i64 ax] 53)) (w.heap.size+1+1) (.int .i64 sd) (.slice (some ⟨g,off,none⟩) n co) (cb3 (wr.alloc (.cells #[.int .i64 ux,.slice Ao np cx,.int .i64 ax] 53)) (wr.heap.size) (.int .i64 ux) (.slice Ao np cx) (.int .i64 ax) (Kp w (wr.alloc (.cells #[.int .i64 ux,.slice Ao np cx,.int .i64 ax] 53)))))):=⟨k5.cell sr.1,k5.cell sr.2.1,k5.cell sr.2.2.1,k5.cell sr.2.2.2.1,k5.cell sr.2.2.2.2.1,k5.cell sr.2.2.2.2.2.1,k5.cell sr.2.2.2.2.2.2.1,k5.cell sr.2.2.2.2.2.2.2.1,k5.cell sr.2.2.2.2.2.2.2.2.1,k5.cell sr.2.2.2.2.2.2.2.2.2.1,k5.cell sr.2.2.2.2.2.2.2.2.2.2.1,k5.cell sr.2.2.2.2.2.2.2.2.2.2.2.1,k5.cell sr.2.2.2.2.2.2.2.2.2.2.2.2.1,k5.cell sr.2.2.2.2.2.2.2.2.2.2.2.2.2.1,k5.cell sr.2.2.2.2.2.2.2.2.2.2.2.2.2.2.1,k5.cell sr.2.2.2.2.2.2.2.2.2.2.2.2.2.2.2.1,k5.cell sr.2.2.2.2.2.2.2.2.2.2.2.2.2.2.2.2.1,by simp [go_sem],by simp [go_sem],by simp [go_sem],sr.2.2.2.2.2.2.2.2.2.2.2.2.2.2.2.2.2.trans k5⟩
      have k50:=kr.trans k5
      have HO5:=Lib.hid (HO.out.keep k5)
      clear k5 sr q0 q1 q2 kr HO
      generalize (wr.alloc (.cells #[.int .i64 ux,.slice Ao np cx,.int .i64 ax] 53))=W5 at *
      have hsz:=k50.size
      go_wp2_with (at_builtin;refine wpList_append_own_at _ rfl (.tmp 38) (.tmp 41) 26 rfl (WL.heap.size) 3 j0 (.int .i64 0) 1 8 Tryz.underlying26 hj0 hz0 hs0 hb0 rfl (by decide) _ (attL ax (xs.take q)).length (cellsI (attL ax (xs.take q))) rfl (World.ownsRow.alloc HO5.out _) ⟨W5.heap.size,0,none⟩ 1 1 [.int .i64 ux] rfl rfl (one_cell _ _ _) (by simp [Value.oneCell']) (by have:=hcq.out;simp only [maxLen];omega) (by have:=hcq.out;omega) (by simp;omega) ?_;intro v' w9 hown2 hgrow2 hnil2 hat2;clear hnil2 hat2;have K9:Kp WL w9:=(k50.alloc _).grown hgrow2 (fun k e=>by have:=(World.ownsRow.lt HO5.out k e).1;omega);have O9:=Lib.hid (OwnI.snoc (x:=ux) hown2);clear hown2 hgrow2)
      go_roundw
      case rel=>exact⟨q+1,by omega,by go_num,Lib.hid (by rw [HY.out];exact O9.out),K9⟩
      case measure=>simp [intOf];omega
     ·have HY:Hid (attL i (xs.take (q+1))=attL i (xs.take q)):=Lib.hid (attL_no HZ.out ha)
      have hd:(ax == i)=false:=by simpa using ha
      go_upto_region 7 with (fail)
      have k5:Kp wr (wr.alloc (.cells #[.int .i64 ux,.slice Ao np cx,.int .i64 ax] 53)):=((Kp.refl wr).alloc _)
      have s5:cb12 (wr.alloc (.cells #[.int .i64 ux,.slice Ao np cx,.int .i64 ax] 53)) (w.heap.size) (.slice At nt ct) (.slice Ak nk ck) (.int .i64 a) (.int .i64 b) (.int .i64 c) (.int .i64 d) (.int .i64 e) (.int .i64 W) (.int .i64 H) (x) (r) (y) (cb3 (wr.alloc (.cells #[.int .i64 ux,.slice Ao np cx,.int .i64 ax] 53)) (w.heap.size+1) (.int .i64 T) (.int .i64 Z) (u) (cb2 (wr.alloc (.cells #[.int .i64 ux,.slice Ao np cx,.int .i64 ax] 53)) (w.heap.size+1+1) (.int .i64 sd) (.slice (some ⟨g,off,none⟩) n co) (cb3 (wr.alloc (.cells #[.int .i64 ux,.slice Ao np cx,.int .i64 ax] 53)) (wr.heap.size) (.int .i64 ux) (.slice Ao np cx) (.int .i64 ax) (Kp w (wr.alloc (.cells #[.int .i64 ux,.slice Ao np cx,.int .i64 ax] 53)))))):=⟨k5.cell sr.1,k5.cell sr.2.1,k5.cell sr.2.2.1,k5.cell sr.2.2.2.1,k5.cell sr.2.2.2.2.1,k5.cell sr.2.2.2.2.2.1,k5.cell sr.2.2.2.2.2.2.1,k5.cell sr.2.2.2.2.2.2.2.1,k5.cell sr.2.2.2.2.2.2.2.2.1,k5.cell sr.2.2.2.2.2.2.2.2.2.1,k5.cell sr.2.2.2.2.2.2.2.2.2.2.1,k5.cell sr.2.2.2.2.2.2.2.2.2.2.2.1,k5.cell sr.2.2.2.2.2.2.2.2.2.2.2.2.1,k5.cell sr.2.2.2.2.2.2.2.2.2.2.2.2.2.1,k5.cell sr.2.2.2.2.2.2.2.2.2.2.2.2.2.2.1,k5.cell sr.2.2.2.2.2.2.2.2.2.2.2.2.2.2.2.1,k5.cell sr.2.2.2.2.2.2.2.2.2.2.2.2.2.2.2.2.1,by simp [go_sem],by simp [go_sem],by simp [go_sem],sr.2.2.2.2.2.2.2.2.2.2.2.2.2.2.2.2.2.trans k5⟩
      have k50:=kr.trans k5
      have HO5:=Lib.hid (HO.out.keep k5)
      clear k5 sr q0 q1 q2 kr HO
      generalize (wr.alloc (.cells #[.int .i64 ux,.slice Ao np cx,.int .i64 ax] 53))=W5 at *
      have hsz:=k50.size
      go_wp2_with fail
      go_roundw
      case rel=>exact⟨q+1,by omega,by go_num,Lib.hid (by rw [HY.out];exact HO5.out),k50⟩
      case measure=>simp [intOf];omega
    ·obtain rfl:q=n:=by omega
     have HST:Hid (attL i (xs.take q)=attL i xs):=Lib.hid (by rw [HLN.out,List.take_length])
     have hz9:=s3.2.2.2.2.2.2.2.2.2.2.2.2.2.2.2.2.2.size
     have o9:=HO.out.base (b:=w.heap.size) (by omega)
     rw [HST.out] at o9
     have O9:=Lib.hid o9
     clear o9 HO
     go_wp2_with fail
     go_ret2
     exact⟨_,rfl,O9.out,sr.2.2.2.2.2.2.2.2.2.2.2.2.2.2.2.2.2⟩
end Go.Proofs.YtacgknllagdkoaaGreatDoor
