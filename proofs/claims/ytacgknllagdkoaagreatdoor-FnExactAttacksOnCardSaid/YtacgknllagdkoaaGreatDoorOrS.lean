/-
 Orders as the reference tells them: a unit's place, the cost and the end of a path, the code of an order. Nothing that was there is changed.
-/
import Derived.Test.YtacgknllagdkoaaGreatDoorOrM
import Derived.Test.YtacgknllagdkoaaGreatDoorCsS
import Derived.Test.YtacgknllagdkoaaGreatDoorZnM
import Derived.Test.YtacgknllagdkoaaGreatDoorQa
import Derived.Test.YtacgknllagdkoaaGreatDoorQe
import Derived.Test.YtacgknllagdkoaaGreatDoorQt
import Derived.StillTailTactics
import Derived.Deep.Cut
import Derived.Maps.AppendAt
namespace Go.Proofs.YtacgknllagdkoaaGreatDoor
open Go.RowKit
theorem keepe22 {W0 w w1:World} {p0 p1 p2 p3 p4 p5 p6 p7 p8 p9 p10 p11 p12 p13 p14 p15 p16 p17 p18 p19 p20 p21:Addr} {v0 v1 v2 v3 v4 v5 v6 v7 v8 v9 v10 v11 v12 v13 v14 v15 v16 v17 v18 v19 v20 v21:Value} (k:Kp w w1) (h:w.cell? p0=some v0∧w.cell? p1=some v1∧w.cell? p2=some v2∧w.cell? p3=some v3∧w.cell? p4=some v4∧w.cell? p5=some v5∧w.cell? p6=some v6∧w.cell? p7=some v7∧w.cell? p8=some v8∧w.cell? p9=some v9∧w.cell? p10=some v10∧w.cell? p11=some v11∧w.cell? p12=some v12∧w.cell? p13=some v13∧w.cell? p14=some v14∧w.cell? p15=some v15∧w.cell? p16=some v16∧w.cell? p17=some v17∧w.cell? p18=some v18∧w.cell? p19=some v19∧w.cell? p20=some v20∧w.cell? p21=some v21∧Kp W0 w):w1.cell? p0=some v0∧w1.cell? p1=some v1∧w1.cell? p2=some v2∧w1.cell? p3=some v3∧w1.cell? p4=some v4∧w1.cell? p5=some v5∧w1.cell? p6=some v6∧w1.cell? p7=some v7∧w1.cell? p8=some v8∧w1.cell? p9=some v9∧w1.cell? p10=some v10∧w1.cell? p11=some v11∧w1.cell? p12=some v12∧w1.cell? p13=some v13∧w1.cell? p14=some v14∧w1.cell? p15=some v15∧w1.cell? p16=some v16∧w1.cell? p17=some v17∧w1.cell? p18=some v18∧w1.cell? p19=some v19∧w1.cell? p20=some v20∧w1.cell? p21=some v21∧Kp W0 w1 :=
 ⟨k.cell h.1,k.cell h.2.1,k.cell h.2.2.1,k.cell h.2.2.2.1,k.cell h.2.2.2.2.1,k.cell h.2.2.2.2.2.1,k.cell h.2.2.2.2.2.2.1,k.cell h.2.2.2.2.2.2.2.1,k.cell h.2.2.2.2.2.2.2.2.1,k.cell h.2.2.2.2.2.2.2.2.2.1,k.cell h.2.2.2.2.2.2.2.2.2.2.1,k.cell h.2.2.2.2.2.2.2.2.2.2.2.1,k.cell h.2.2.2.2.2.2.2.2.2.2.2.2.1,k.cell h.2.2.2.2.2.2.2.2.2.2.2.2.2.1,k.cell h.2.2.2.2.2.2.2.2.2.2.2.2.2.2.1,k.cell h.2.2.2.2.2.2.2.2.2.2.2.2.2.2.2.1,k.cell h.2.2.2.2.2.2.2.2.2.2.2.2.2.2.2.2.1,k.cell h.2.2.2.2.2.2.2.2.2.2.2.2.2.2.2.2.2.1,k.cell h.2.2.2.2.2.2.2.2.2.2.2.2.2.2.2.2.2.2.1,k.cell h.2.2.2.2.2.2.2.2.2.2.2.2.2.2.2.2.2.2.2.1,k.cell h.2.2.2.2.2.2.2.2.2.2.2.2.2.2.2.2.2.2.2.2.1,k.cell h.2.2.2.2.2.2.2.2.2.2.2.2.2.2.2.2.2.2.2.2.2.1,h.2.2.2.2.2.2.2.2.2.2.2.2.2.2.2.2.2.2.2.2.2.2.trans k⟩
theorem drewe22 {W0 w:World} {p0 p1 p2 p3 p4 p5 p6 p7 p8 p9 p10 p11 p12 p13 p14 p15 p16 p17 p18 p19 p20 p21:Addr} {v0 v1 v2 v3 v4 v5 v6 v7 v8 v9 v10 v11 v12 v13 v14 v15 v16 v17 v18 v19 v20 v21:Value} (h:w.cell? p0=some v0∧w.cell? p1=some v1∧w.cell? p2=some v2∧w.cell? p3=some v3∧w.cell? p4=some v4∧w.cell? p5=some v5∧w.cell? p6=some v6∧w.cell? p7=some v7∧w.cell? p8=some v8∧w.cell? p9=some v9∧w.cell? p10=some v10∧w.cell? p11=some v11∧w.cell? p12=some v12∧w.cell? p13=some v13∧w.cell? p14=some v14∧w.cell? p15=some v15∧w.cell? p16=some v16∧w.cell? p17=some v17∧w.cell? p18=some v18∧w.cell? p19=some v19∧w.cell? p20=some v20∧w.cell? p21=some v21∧Kp W0 w):w.drew.cell? p0=some v0∧w.drew.cell? p1=some v1∧w.drew.cell? p2=some v2∧w.drew.cell? p3=some v3∧w.drew.cell? p4=some v4∧w.drew.cell? p5=some v5∧w.drew.cell? p6=some v6∧w.drew.cell? p7=some v7∧w.drew.cell? p8=some v8∧w.drew.cell? p9=some v9∧w.drew.cell? p10=some v10∧w.drew.cell? p11=some v11∧w.drew.cell? p12=some v12∧w.drew.cell? p13=some v13∧w.drew.cell? p14=some v14∧w.drew.cell? p15=some v15∧w.drew.cell? p16=some v16∧w.drew.cell? p17=some v17∧w.drew.cell? p18=some v18∧w.drew.cell? p19=some v19∧w.drew.cell? p20=some v20∧w.drew.cell? p21=some v21∧Kp W0 w.drew :=
 ⟨h.1,h.2.1,h.2.2.1,h.2.2.2.1,h.2.2.2.2.1,h.2.2.2.2.2.1,h.2.2.2.2.2.2.1,h.2.2.2.2.2.2.2.1,h.2.2.2.2.2.2.2.2.1,h.2.2.2.2.2.2.2.2.2.1,h.2.2.2.2.2.2.2.2.2.2.1,h.2.2.2.2.2.2.2.2.2.2.2.1,h.2.2.2.2.2.2.2.2.2.2.2.2.1,h.2.2.2.2.2.2.2.2.2.2.2.2.2.1,h.2.2.2.2.2.2.2.2.2.2.2.2.2.2.1,h.2.2.2.2.2.2.2.2.2.2.2.2.2.2.2.1,h.2.2.2.2.2.2.2.2.2.2.2.2.2.2.2.2.1,h.2.2.2.2.2.2.2.2.2.2.2.2.2.2.2.2.2.1,h.2.2.2.2.2.2.2.2.2.2.2.2.2.2.2.2.2.2.1,h.2.2.2.2.2.2.2.2.2.2.2.2.2.2.2.2.2.2.2.1,h.2.2.2.2.2.2.2.2.2.2.2.2.2.2.2.2.2.2.2.2.1,h.2.2.2.2.2.2.2.2.2.2.2.2.2.2.2.2.2.2.2.2.2.1,h.2.2.2.2.2.2.2.2.2.2.2.2.2.2.2.2.2.2.2.2.2.2.drew⟩
theorem keepe23 {W0 w w1:World} {p0 p1 p2 p3 p4 p5 p6 p7 p8 p9 p10 p11 p12 p13 p14 p15 p16 p17 p18 p19 p20 p21 p22:Addr} {v0 v1 v2 v3 v4 v5 v6 v7 v8 v9 v10 v11 v12 v13 v14 v15 v16 v17 v18 v19 v20 v21 v22:Value} (k:Kp w w1) (h:w.cell? p0=some v0∧w.cell? p1=some v1∧w.cell? p2=some v2∧w.cell? p3=some v3∧w.cell? p4=some v4∧w.cell? p5=some v5∧w.cell? p6=some v6∧w.cell? p7=some v7∧w.cell? p8=some v8∧w.cell? p9=some v9∧w.cell? p10=some v10∧w.cell? p11=some v11∧w.cell? p12=some v12∧w.cell? p13=some v13∧w.cell? p14=some v14∧w.cell? p15=some v15∧w.cell? p16=some v16∧w.cell? p17=some v17∧w.cell? p18=some v18∧w.cell? p19=some v19∧w.cell? p20=some v20∧w.cell? p21=some v21∧w.cell? p22=some v22∧Kp W0 w):w1.cell? p0=some v0∧w1.cell? p1=some v1∧w1.cell? p2=some v2∧w1.cell? p3=some v3∧w1.cell? p4=some v4∧w1.cell? p5=some v5∧w1.cell? p6=some v6∧w1.cell? p7=some v7∧w1.cell? p8=some v8∧w1.cell? p9=some v9∧w1.cell? p10=some v10∧w1.cell? p11=some v11∧w1.cell? p12=some v12∧w1.cell? p13=some v13∧w1.cell? p14=some v14∧w1.cell? p15=some v15∧w1.cell? p16=some v16∧w1.cell? p17=some v17∧w1.cell? p18=some v18∧w1.cell? p19=some v19∧w1.cell? p20=some v20∧w1.cell? p21=some v21∧w1.cell? p22=some v22∧Kp W0 w1 :=
 ⟨k.cell h.1,k.cell h.2.1,k.cell h.2.2.1,k.cell h.2.2.2.1,k.cell h.2.2.2.2.1,k.cell h.2.2.2.2.2.1,k.cell h.2.2.2.2.2.2.1,k.cell h.2.2.2.2.2.2.2.1,k.cell h.2.2.2.2.2.2.2.2.1,k.cell h.2.2.2.2.2.2.2.2.2.1,k.cell h.2.2.2.2.2.2.2.2.2.2.1,k.cell h.2.2.2.2.2.2.2.2.2.2.2.1,k.cell h.2.2.2.2.2.2.2.2.2.2.2.2.1,k.cell h.2.2.2.2.2.2.2.2.2.2.2.2.2.1,k.cell h.2.2.2.2.2.2.2.2.2.2.2.2.2.2.1,k.cell h.2.2.2.2.2.2.2.2.2.2.2.2.2.2.2.1,k.cell h.2.2.2.2.2.2.2.2.2.2.2.2.2.2.2.2.1,k.cell h.2.2.2.2.2.2.2.2.2.2.2.2.2.2.2.2.2.1,k.cell h.2.2.2.2.2.2.2.2.2.2.2.2.2.2.2.2.2.2.1,k.cell h.2.2.2.2.2.2.2.2.2.2.2.2.2.2.2.2.2.2.2.1,k.cell h.2.2.2.2.2.2.2.2.2.2.2.2.2.2.2.2.2.2.2.2.1,k.cell h.2.2.2.2.2.2.2.2.2.2.2.2.2.2.2.2.2.2.2.2.2.1,k.cell h.2.2.2.2.2.2.2.2.2.2.2.2.2.2.2.2.2.2.2.2.2.2.1,h.2.2.2.2.2.2.2.2.2.2.2.2.2.2.2.2.2.2.2.2.2.2.2.trans k⟩
theorem drewe23 {W0 w:World} {p0 p1 p2 p3 p4 p5 p6 p7 p8 p9 p10 p11 p12 p13 p14 p15 p16 p17 p18 p19 p20 p21 p22:Addr} {v0 v1 v2 v3 v4 v5 v6 v7 v8 v9 v10 v11 v12 v13 v14 v15 v16 v17 v18 v19 v20 v21 v22:Value} (h:w.cell? p0=some v0∧w.cell? p1=some v1∧w.cell? p2=some v2∧w.cell? p3=some v3∧w.cell? p4=some v4∧w.cell? p5=some v5∧w.cell? p6=some v6∧w.cell? p7=some v7∧w.cell? p8=some v8∧w.cell? p9=some v9∧w.cell? p10=some v10∧w.cell? p11=some v11∧w.cell? p12=some v12∧w.cell? p13=some v13∧w.cell? p14=some v14∧w.cell? p15=some v15∧w.cell? p16=some v16∧w.cell? p17=some v17∧w.cell? p18=some v18∧w.cell? p19=some v19∧w.cell? p20=some v20∧w.cell? p21=some v21∧w.cell? p22=some v22∧Kp W0 w):w.drew.cell? p0=some v0∧w.drew.cell? p1=some v1∧w.drew.cell? p2=some v2∧w.drew.cell? p3=some v3∧w.drew.cell? p4=some v4∧w.drew.cell? p5=some v5∧w.drew.cell? p6=some v6∧w.drew.cell? p7=some v7∧w.drew.cell? p8=some v8∧w.drew.cell? p9=some v9∧w.drew.cell? p10=some v10∧w.drew.cell? p11=some v11∧w.drew.cell? p12=some v12∧w.drew.cell? p13=some v13∧w.drew.cell? p14=some v14∧w.drew.cell? p15=some v15∧w.drew.cell? p16=some v16∧w.drew.cell? p17=some v17∧w.drew.cell? p18=some v18∧w.drew.cell? p19=some v19∧w.drew.cell? p20=some v20∧w.drew.cell? p21=some v21∧w.drew.cell? p22=some v22∧Kp W0 w.drew :=
 ⟨h.1,h.2.1,h.2.2.1,h.2.2.2.1,h.2.2.2.2.1,h.2.2.2.2.2.1,h.2.2.2.2.2.2.1,h.2.2.2.2.2.2.2.1,h.2.2.2.2.2.2.2.2.1,h.2.2.2.2.2.2.2.2.2.1,h.2.2.2.2.2.2.2.2.2.2.1,h.2.2.2.2.2.2.2.2.2.2.2.1,h.2.2.2.2.2.2.2.2.2.2.2.2.1,h.2.2.2.2.2.2.2.2.2.2.2.2.2.1,h.2.2.2.2.2.2.2.2.2.2.2.2.2.2.1,h.2.2.2.2.2.2.2.2.2.2.2.2.2.2.2.1,h.2.2.2.2.2.2.2.2.2.2.2.2.2.2.2.2.1,h.2.2.2.2.2.2.2.2.2.2.2.2.2.2.2.2.2.1,h.2.2.2.2.2.2.2.2.2.2.2.2.2.2.2.2.2.2.1,h.2.2.2.2.2.2.2.2.2.2.2.2.2.2.2.2.2.2.2.1,h.2.2.2.2.2.2.2.2.2.2.2.2.2.2.2.2.2.2.2.2.1,h.2.2.2.2.2.2.2.2.2.2.2.2.2.2.2.2.2.2.2.2.2.1,h.2.2.2.2.2.2.2.2.2.2.2.2.2.2.2.2.2.2.2.2.2.2.1,h.2.2.2.2.2.2.2.2.2.2.2.2.2.2.2.2.2.2.2.2.2.2.2.drew⟩
theorem spB_in (n N:Nat) (u:Int) (h:N=n):spB 0 ((N:Int) - 1) u=inB u n:=by
 subst h
 rw [Bool.eq_iff_iff]
 simp only [spB,inB,Bool.and_eq_true,decide_eq_true_iff]
 omega
set_option maxRecDepth 100000 in
set_option maxHeartbeats 4000000 in
theorem oPlaced_any (T Z:Int) (u:Value) (us:List Uni) (sd un:Int) (w:World) (hS:StaAt w u us) (ha:∀ z ∈ us,z.a=-1∨0≤z.a) :
  Calls Tryz.prog 130 #[sv T Z u,.int .i64 sd,.int .i64 un] w fun e' w'=>e'=.returned (.bool (plcB us sd un))∧Kp w w':=by
 have hb:=hS.b
 obtain⟨A,cp,rfl,h⟩:=hS.rd
 have CI:=Lib.hid (fun (w:World)=>l1In_sp un 0 ((us.length:Int) - 1) w)
 rw [spB_in us.length us.length un rfl] at CI
 have e0:IntKind.i64.wrap ((us.length:Int) - 1)=(us.length:Int) - 1:=IntWalk.i64_in _ (by omega)
 cases hg:inB un us.length
 ·rw [hg] at CI
  have HE:Hid (plcB us sd un=false):=Lib.hid (by unfold plcB;rw [hg];rfl)
  rw [HE.out]
  generalize us.length=N at *
  clear hS hg h ha
  go_enter Tryz.func130,Tryz.ntmps130
  go_wp2_with fail
  refine(CI.out _).mono ?_
  rintro e1 w1 ⟨rfl,rfl⟩
  go_wp2_with fail
  go_ret
  exact⟨rfl,(Kp.refl w).alloc _⟩
 ·rw [hg] at CI
  obtain⟨k,rfl,hk,hz⟩:=unN_of hg
  have HE:Hid (plcB us sd (k:Int)=(decide ((unN us (k:Int)).s=sd) && decide ((unN us (k:Int)).a ≠ -1))):=Lib.hid (by unfold plcB;rw [hg,Bool.true_and])
  rw [HE.out]
  have hza:=ha _ (List.mem_of_getElem? hz)
  obtain⟨gu,ou,rfl,hc⟩:=h (by omega)
  obtain⟨q0,q1,q2,q3⟩:=hc k _ hz
  generalize unN us (k:Int)=zz at q0 q1 q2 q3 hz hza ⊢
  obtain⟨sx,kx,ax,tx⟩:=zz
  simp only at q0 q1 q2 q3 hza ⊢
  generalize us.length=N at *
  have hk':(k:Int)<N:=by omega
  have KA:Kp w (w.alloc (.cells #[.int .i64 T,.int .i64 Z,.slice (some ⟨gu,ou,none⟩) N cp] 51)):=(Kp.refl w).alloc _
  have s0:cb3 (w.alloc (.cells #[.int .i64 T,.int .i64 Z,.slice (some ⟨gu,ou,none⟩) N cp] 51)) (w.heap.size) (.int .i64 T) (.int .i64 Z) (.slice (some ⟨gu,ou,none⟩) N cp) ((w.alloc (.cells #[.int .i64 T,.int .i64 Z,.slice (some ⟨gu,ou,none⟩) N cp] 51)).cell? ⟨gu,ou+k*4,none⟩=some (.int .i64 sx)∧(w.alloc (.cells #[.int .i64 T,.int .i64 Z,.slice (some ⟨gu,ou,none⟩) N cp] 51)).cell? ⟨gu,ou+k*4+1,none⟩=some (.int .i64 kx)∧(w.alloc (.cells #[.int .i64 T,.int .i64 Z,.slice (some ⟨gu,ou,none⟩) N cp] 51)).cell? ⟨gu,ou+k*4+2,none⟩=some (.int .i64 ax)∧(w.alloc (.cells #[.int .i64 T,.int .i64 Z,.slice (some ⟨gu,ou,none⟩) N cp] 51)).cell? ⟨gu,ou+k*4+3,none⟩=some (.int .i64 tx)∧Kp w (w.alloc (.cells #[.int .i64 T,.int .i64 Z,.slice (some ⟨gu,ou,none⟩) N cp] 51))):=⟨by simp [go_sem],by simp [go_sem],by simp [go_sem],KA.cell q0,KA.cell q1,KA.cell q2,KA.cell q3,KA⟩
  clear hS hg h hc hz ha q0 q1 q2 q3 HE
  by_cases hsx:sx=sd
  ·subst hsx
   rcases hza with rfl | hax
   ·go_enter Tryz.func130,Tryz.ntmps130
    go_wp2_with fail
    refine(CI.out _).mono ?_
    rintro e1 w1 ⟨rfl,rfl⟩
    go_wp2_with fail
    go_ret
    exact⟨ret_bool (by simp []),s0.2.2.2.2.2.2.2⟩
   ·have hax2:ax ≠ -1:=by omega
    go_enter Tryz.func130,Tryz.ntmps130
    go_wp2_with fail
    refine(CI.out _).mono ?_
    rintro e1 w1 ⟨rfl,rfl⟩
    go_wp2_with fail
    go_ret
    exact⟨ret_bool (by simp [hax2]),s0.2.2.2.2.2.2.2⟩
  ·have hd:(sx == sd)=false:=by simpa using hsx
   go_enter Tryz.func130,Tryz.ntmps130
   go_wp2_with fail
   refine(CI.out _).mono ?_
   rintro e1 w1 ⟨rfl,rfl⟩
   go_wp2_with fail
   go_ret
   exact⟨ret_bool (by simp [hsx]),s0.2.2.2.2.2.2.2⟩
set_option maxRecDepth 100000 in
set_option maxHeartbeats 4000000 in
theorem oCost_yes (At:Option Addr) (nt nk ct ck:Nat) (l:List Ter) (m:List Knd) (a b c d e W H:Int) (x r y:Value) (lt lr ld:List Int) (T Z:Int) (_us:List Uni) (k j:Nat) (sx ax tx:Int) (gu ou N cp gk ok':Nat) (at':Int) (v:Value) (p:List Int) (w:World) (hB:BrdAt w At (some ⟨gk,ok',none⟩) nt nk l m x r y lt lr ld) (hok:brdOk ⟨l,m,a,b,c,d,e⟩ W H lt lr ld=true) (hw:Z=0∨Z=1∨Z=2) (hp:RdI w v p) (hl:p.length≤1048576) (hk:k<N) (hj:j<m.length) (hx:onI W H ax=true) (q:w.cell? ⟨gu,ou+k*4,none⟩=some (.int .i64 sx)∧w.cell? ⟨gu,ou+k*4+1,none⟩=some (.int .i64 (j:Int))∧w.cell? ⟨gu,ou+k*4+2,none⟩=some (.int .i64 ax)∧w.cell? ⟨gu,ou+k*4+3,none⟩=some (.int .i64 tx)) :
  Calls Tryz.prog 88 #[bv (.slice At nt ct) (.slice (some ⟨gk,ok',none⟩) nk ck) a b c d e W H x r y,sv T Z (.slice (some ⟨gu,ou,none⟩) N cp),.agg #[.int .i64 (k:Int),v,.int .i64 at']] w fun e' w'=>e'=.returned (.int .i64 (if goB (stp l lt lr ld W H b c j Z) W ax p=true then sumL (cstP (stp l lt lr ld W H b c j Z) W ax p) else -1))∧Kp w w':=by
 have KA:Kp w (((w.alloc (.cells #[.slice At nt ct,.slice (some ⟨gk,ok',none⟩) nk ck,.int .i64 a,.int .i64 b,.int .i64 c,.int .i64 d,.int .i64 e,.int .i64 W,.int .i64 H,x,r,y] 47)).alloc (.cells #[.int .i64 T,.int .i64 Z,.slice (some ⟨gu,ou,none⟩) N cp] 51)).alloc (.cells #[.int .i64 (k:Int),v,.int .i64 at'] 53)):=(((Kp.refl w).alloc _).alloc _).alloc _
 have s0:cb12 (((w.alloc (.cells #[.slice At nt ct,.slice (some ⟨gk,ok',none⟩) nk ck,.int .i64 a,.int .i64 b,.int .i64 c,.int .i64 d,.int .i64 e,.int .i64 W,.int .i64 H,x,r,y] 47)).alloc (.cells #[.int .i64 T,.int .i64 Z,.slice (some ⟨gu,ou,none⟩) N cp] 51)).alloc (.cells #[.int .i64 (k:Int),v,.int .i64 at'] 53)) (w.heap.size) (.slice At nt ct) (.slice (some ⟨gk,ok',none⟩) nk ck) (.int .i64 a) (.int .i64 b) (.int .i64 c) (.int .i64 d) (.int .i64 e) (.int .i64 W) (.int .i64 H) (x) (r) (y) (cb3 (((w.alloc (.cells #[.slice At nt ct,.slice (some ⟨gk,ok',none⟩) nk ck,.int .i64 a,.int .i64 b,.int .i64 c,.int .i64 d,.int .i64 e,.int .i64 W,.int .i64 H,x,r,y] 47)).alloc (.cells #[.int .i64 T,.int .i64 Z,.slice (some ⟨gu,ou,none⟩) N cp] 51)).alloc (.cells #[.int .i64 (k:Int),v,.int .i64 at'] 53)) (w.heap.size+1) (.int .i64 T) (.int .i64 Z) (.slice (some ⟨gu,ou,none⟩) N cp) (cb3 (((w.alloc (.cells #[.slice At nt ct,.slice (some ⟨gk,ok',none⟩) nk ck,.int .i64 a,.int .i64 b,.int .i64 c,.int .i64 d,.int .i64 e,.int .i64 W,.int .i64 H,x,r,y] 47)).alloc (.cells #[.int .i64 T,.int .i64 Z,.slice (some ⟨gu,ou,none⟩) N cp] 51)).alloc (.cells #[.int .i64 (k:Int),v,.int .i64 at'] 53)) (w.heap.size+1+1) (.int .i64 (k:Int)) (v) (.int .i64 at') ((((w.alloc (.cells #[.slice At nt ct,.slice (some ⟨gk,ok',none⟩) nk ck,.int .i64 a,.int .i64 b,.int .i64 c,.int .i64 d,.int .i64 e,.int .i64 W,.int .i64 H,x,r,y] 47)).alloc (.cells #[.int .i64 T,.int .i64 Z,.slice (some ⟨gu,ou,none⟩) N cp] 51)).alloc (.cells #[.int .i64 (k:Int),v,.int .i64 at'] 53)).cell? ⟨gu,ou+k*4,none⟩=some (.int .i64 sx)∧(((w.alloc (.cells #[.slice At nt ct,.slice (some ⟨gk,ok',none⟩) nk ck,.int .i64 a,.int .i64 b,.int .i64 c,.int .i64 d,.int .i64 e,.int .i64 W,.int .i64 H,x,r,y] 47)).alloc (.cells #[.int .i64 T,.int .i64 Z,.slice (some ⟨gu,ou,none⟩) N cp] 51)).alloc (.cells #[.int .i64 (k:Int),v,.int .i64 at'] 53)).cell? ⟨gu,ou+k*4+1,none⟩=some (.int .i64 (j:Int))∧(((w.alloc (.cells #[.slice At nt ct,.slice (some ⟨gk,ok',none⟩) nk ck,.int .i64 a,.int .i64 b,.int .i64 c,.int .i64 d,.int .i64 e,.int .i64 W,.int .i64 H,x,r,y] 47)).alloc (.cells #[.int .i64 T,.int .i64 Z,.slice (some ⟨gu,ou,none⟩) N cp] 51)).alloc (.cells #[.int .i64 (k:Int),v,.int .i64 at'] 53)).cell? ⟨gu,ou+k*4+2,none⟩=some (.int .i64 ax)∧(((w.alloc (.cells #[.slice At nt ct,.slice (some ⟨gk,ok',none⟩) nk ck,.int .i64 a,.int .i64 b,.int .i64 c,.int .i64 d,.int .i64 e,.int .i64 W,.int .i64 H,x,r,y] 47)).alloc (.cells #[.int .i64 T,.int .i64 Z,.slice (some ⟨gu,ou,none⟩) N cp] 51)).alloc (.cells #[.int .i64 (k:Int),v,.int .i64 at'] 53)).cell? ⟨gu,ou+k*4+3,none⟩=some (.int .i64 tx)∧Kp w (((w.alloc (.cells #[.slice At nt ct,.slice (some ⟨gk,ok',none⟩) nk ck,.int .i64 a,.int .i64 b,.int .i64 c,.int .i64 d,.int .i64 e,.int .i64 W,.int .i64 H,x,r,y] 47)).alloc (.cells #[.int .i64 T,.int .i64 Z,.slice (some ⟨gu,ou,none⟩) N cp] 51)).alloc (.cells #[.int .i64 (k:Int),v,.int .i64 at'] 53))))):=⟨by simp [go_sem],by simp [go_sem],by simp [go_sem],by simp [go_sem],by simp [go_sem],by simp [go_sem],by simp [go_sem],by simp [go_sem],by simp [go_sem],by simp [go_sem],by simp [go_sem],by simp [go_sem],by simp [go_sem],by simp [go_sem],by simp [go_sem],by simp [go_sem],by simp [go_sem],by simp [go_sem],KA.cell q.1,KA.cell q.2.1,KA.cell q.2.2.1,KA.cell q.2.2.2,KA⟩
 have HB:=Lib.hid hB
 have HP:=Lib.hid hp
 have hk':(k:Int)<N:=by omega
 have CP:=Lib.hid (fun (w:World) (h:RdI w v p)=>csPath_any v p w h hl)
 cases hg:pthB p
 ·have HG:Hid (goB (stp l lt lr ld W H b c j Z) W ax p=false):=Lib.hid (by unfold goB;rw [hg];rfl)
  rw [HG.out,if_neg (by simp)]
  rw [hg] at CP
  clear hg hB hok hw hp hl hj hx q
  go_enter Tryz.func88,Tryz.ntmps88
  go_wp2_with fail
  refine(CP.out _ (HP.out.keep KA)).mono ?_
  rintro e1 w1 ⟨rfl,rfl⟩
  go_wp2_with fail
  go_ret
  exact⟨rfl,KA⟩
 ·have HG:Hid ((if goB (stp l lt lr ld W H b c j Z) W ax p=true then sumL (cstP (stp l lt lr ld W H b c j Z) W ax p) else -1)=csR (stp l lt lr ld W H b c j Z) W ax p 0):=Lib.hid (by
   unfold goB
   rw [hg,Bool.true_and,csR_eq]
   by_cases h:(cstP (stp l lt lr ld W H b c j Z) W ax p).length=p.length
   ·rw [if_pos h,wlk_len h,if_pos rfl];omega
   ·rw [if_neg h,wlk_not h,if_neg (by simp)])
  rw [HG.out]
  rw [hg] at CP
  have CC:=Lib.hid (fun (w:World) hB hp=>csCost_any At (some ⟨gk,ok',none⟩) nt nk ct ck l m a b c d e W H x r y lt lr ld j Z ax v p w hB hok hj hw hx (pth_dir hg).2 hp (pth_dir hg).1)
  generalize csR (stp l lt lr ld W H b c j Z) W ax p 0=R at CC ⊢
  clear hg hB hok hw hp hl hj hx q HG
  go_enter Tryz.func88,Tryz.ntmps88
  go_wp2_with fail
  refine(CP.out _ (HP.out.keep KA)).mono ?_
  rintro e1 w1 ⟨rfl,rfl⟩
  go_upto_region 3 with (fail)
  have s1:=drewe22 s0
  clear s0
  refine wp_region_held_drew (S:=(fun w'=>cb12 w' (w.heap.size) (.slice At nt ct) (.slice (some ⟨gk,ok',none⟩) nk ck) (.int .i64 a) (.int .i64 b) (.int .i64 c) (.int .i64 d) (.int .i64 e) (.int .i64 W) (.int .i64 H) (x) (r) (y) (cb3 w' (w.heap.size+1) (.int .i64 T) (.int .i64 Z) (.slice (some ⟨gu,ou,none⟩) N cp) (cb3 w' (w.heap.size+1+1) (.int .i64 (k:Int)) (v) (.int .i64 at') (w'.cell? ⟨gu,ou+k*4,none⟩=some (.int .i64 sx)∧w'.cell? ⟨gu,ou+k*4+1,none⟩=some (.int .i64 (j:Int))∧w'.cell? ⟨gu,ou+k*4+2,none⟩=some (.int .i64 ax)∧w'.cell? ⟨gu,ou+k*4+3,none⟩=some (.int .i64 tx)∧Kp w w'))))) (by kernel_rfl) ?_ (fun hHeld=>?_)
  ·exact s1
  refine tk 0 ⟨some 11,_,_,_,_,_⟩ ?_ rfl (by kernel_rfl) (fun _ _ _ h=>h) (by rfl) ?_ (by assumption) ?_
  rotate_left
  ·intro w hSw;(try dsimp only at hSw);go_simp;(all_goals with_reducible rfl)
  simp only [Act.put,sA,sB,sC]
  refine tk 1 ⟨some 12,_,_,_,_,_⟩ ?_ rfl (by kernel_rfl) (fun _ _ _ h=>h) (by rfl) ?_ (by assumption) ?_
  rotate_left
  ·intro w hSw;(try dsimp only at hSw);go_simp;(all_goals with_reducible rfl)
  simp only [Act.put,sA,sB,sC]
  refine tk 2 ⟨some 13,_,_,_,_,_⟩ ?_ rfl (by kernel_rfl) (fun _ _ _ h=>h) (by rfl) ?_ (by assumption) ?_
  rotate_left
  ·intro w hSw;(try dsimp only at hSw);go_simp;(all_goals with_reducible rfl)
  simp only [Act.put,sA,sB,sC]
  refine tk 3 ⟨some 14,_,_,_,_,_⟩ ?_ rfl (by kernel_rfl) (fun _ _ _ h=>h) (by rfl) ?_ (by assumption) ?_
  rotate_left
  ·intro w hSw;(try dsimp only at hSw);go_simp;(all_goals with_reducible rfl)
  simp only [Act.put,sA,sB,sC]
  refine tk 4 ⟨some 15,_,_,_,_,_⟩ ?_ rfl (by kernel_rfl) (fun _ _ _ h=>h) (by rfl) ?_ (by assumption) ?_
  rotate_left
  ·intro w hSw;(try dsimp only at hSw);go_simp;(all_goals with_reducible rfl)
  simp only [Act.put,sA,sB,sC]
  refine tk 5 ⟨some 16,_,_,_,_,_⟩ ?_ rfl (by kernel_rfl) (fun _ _ _ h=>h) (by rfl) ?_ (by assumption) ?_
  rotate_left
  ·intro w hSw;(try dsimp only at hSw);go_simp;(all_goals with_reducible rfl)
  simp only [Act.put,sA,sB,sC]
  refine tk 6 ⟨some 17,_,_,_,_,_⟩ ?_ rfl (by kernel_rfl) (fun _ _ _ h=>h) (by rfl) ?_ (by assumption) ?_
  rotate_left
  ·intro w hSw;(try dsimp only at hSw);go_simp;(all_goals with_reducible rfl)
  simp only [Act.put,sA,sB,sC]
  refine tk 7 ⟨some 18,_,_,_,_,_⟩ ?_ rfl (by kernel_rfl) (fun _ _ _ h=>h) (by rfl) ?_ (by assumption) ?_
  rotate_left
  ·intro w hSw;(try dsimp only at hSw);go_simp;(all_goals with_reducible rfl)
  simp only [Act.put,sA,sB,sC]
  refine tk 8 ⟨some 19,_,_,_,_,_⟩ ?_ rfl (by kernel_rfl) (fun _ _ _ h=>h) (by rfl) ?_ (by assumption) ?_
  rotate_left
  ·intro w hSw;(try dsimp only at hSw);go_simp;(all_goals with_reducible rfl)
  simp only [Act.put,sA,sB,sC]
  refine tk 9 ⟨some 20,_,_,_,_,_⟩ ?_ rfl (by kernel_rfl) (fun _ _ _ h=>h) (by rfl) ?_ (by assumption) ?_
  rotate_left
  ·intro w hSw;(try dsimp only at hSw);go_simp;(all_goals with_reducible rfl)
  simp only [Act.put,sA,sB,sC]
  refine tk 10 ⟨some 21,_,_,_,_,_⟩ ?_ rfl (by kernel_rfl) (fun _ _ _ h=>h) (by rfl) ?_ (by assumption) ?_
  rotate_left
  ·intro w hSw;(try dsimp only at hSw);go_simp;(all_goals with_reducible rfl)
  simp only [Act.put,sA,sB,sC]
  refine tk 11 ⟨some 22,_,_,_,_,_⟩ ?_ rfl (by kernel_rfl) (fun _ _ _ h=>h) (by rfl) ?_ (by assumption) ?_
  rotate_left
  ·intro w hSw;(try dsimp only at hSw);go_simp;(all_goals with_reducible rfl)
  simp only [Act.put,sA,sB,sC]
  refine tk 12 ⟨some 23,_,_,_,_,_⟩ ?_ rfl (by kernel_rfl) (fun _ _ _ h=>h) (by rfl) ?_ (by assumption) ?_
  rotate_left
  ·intro w hSw;(try dsimp only at hSw);go_simp;(all_goals with_reducible rfl)
  simp only [Act.put,sA,sB,sC]
  refine tk 13 ⟨some 24,_,_,_,_,_⟩ ?_ rfl (by kernel_rfl) (fun _ _ _ h=>h) (by rfl) ?_ (by assumption) ?_
  rotate_left
  ·intro w hSw;(try dsimp only at hSw);go_simp;(all_goals with_reducible rfl)
  simp only [Act.put,sA,sB,sC]
  refine tk 14 ⟨some 25,_,_,_,_,_⟩ ?_ rfl (by kernel_rfl) (fun _ _ _ h=>h) (by rfl) ?_ (by assumption) ?_
  rotate_left
  ·intro w hSw;(try dsimp only at hSw);go_simp;(all_goals with_reducible rfl)
  simp only [Act.put,sA,sB,sC]
  refine tk 15 ⟨some 26,_,_,_,_,_⟩ ?_ rfl (by kernel_rfl) (fun _ _ _ h=>h) (by rfl) ?_ (by assumption) ?_
  rotate_left
  ·intro w hSw;(try dsimp only at hSw);go_simp;(all_goals with_reducible rfl)
  simp only [Act.put,sA,sB,sC]
  refine tk 16 ⟨some 27,_,_,_,_,_⟩ ?_ rfl (by kernel_rfl) (fun _ _ _ h=>h) (by rfl) ?_ (by assumption) ?_
  rotate_left
  ·intro w hSw;(try dsimp only at hSw);go_simp;(all_goals with_reducible rfl)
  simp only [Act.put,sA,sB,sC]
  refine tk 17 ⟨some 28,_,_,_,_,_⟩ ?_ rfl (by kernel_rfl) (fun _ _ _ h=>h) (by rfl) ?_ (by assumption) ?_
  rotate_left
  ·intro w hSw;(try dsimp only at hSw);go_simp;(all_goals with_reducible rfl)
  simp only [Act.put,sA,sB,sC]
  refine tk 18 ⟨some 29,_,_,_,_,_⟩ ?_ rfl (by kernel_rfl) (fun _ _ _ h=>h) (by rfl) ?_ (by assumption) ?_
  rotate_left
  ·intro w hSw;(try dsimp only at hSw);go_simp;(all_goals with_reducible rfl)
  simp only [Act.put,sA,sB,sC]
  refine wpAnyH_ready (rs:=[19]) (by kernel_rfl) (by simp) ?_
  refine AllReadyH.cons (o:=⟨some 30,_,_,_,_,_⟩) rfl (fun K hK=>?_) AllReadyH.nil
  go_simp
  refine(CC.out _ (HB.out.keep hHeld.2.2.2.2.2.2.2.2.2.2.2.2.2.2.2.2.2.2.2.2.2.2) (HP.out.keep hHeld.2.2.2.2.2.2.2.2.2.2.2.2.2.2.2.2.2.2.2.2.2.2)).mono ?_;rintro e2 w2 ⟨rfl,k2⟩;have s2:=keepe22 k2 hHeld
  go_wp2_with fail
  refine hK.out _ _ ?_ (fun hHeld=>?_)
  ·(try dsimp only);(first | assumption | exact s2 | exact s1)
  clear hK K
  try simp only [Act.put,sA,sB,sC]
  refine tk 20 ⟨some 6,_,_,_,_,_⟩ ?_ rfl (by kernel_rfl) (fun _ _ _ h=>h) (by rfl) ?_ (by assumption) ?_
  rotate_left
  ·intro w hSw;(try dsimp only at hSw);go_simp;(all_goals with_reducible rfl)
  simp only [Act.put,sA,sB,sC]
  refine wpAnyH_done (by kernel_rfl) ?_ _
  go_wp2_with fail
  go_ret
  exact⟨rfl,hHeld.2.2.2.2.2.2.2.2.2.2.2.2.2.2.2.2.2.2.2.2.2.2⟩
set_option maxRecDepth 100000 in
set_option maxHeartbeats 4000000 in
theorem oEnd_yes (At:Option Addr) (nt nk ct ck:Nat) (l:List Ter) (m:List Knd) (a b c d e W H:Int) (x r y:Value) (lt lr ld:List Int) (T Z:Int) (_us:List Uni) (k j:Nat) (sx ax tx:Int) (gu ou N cp gk ok':Nat) (at':Int) (v:Value) (p:List Int) (w:World) (hok:brdOk ⟨l,m,a,b,c,d,e⟩ W H lt lr ld=true) (hp:RdI w v p) (hk:k<N) (hx:onI W H ax=true) (q:w.cell? ⟨gu,ou+k*4,none⟩=some (.int .i64 sx)∧w.cell? ⟨gu,ou+k*4+1,none⟩=some (.int .i64 (j:Int))∧w.cell? ⟨gu,ou+k*4+2,none⟩=some (.int .i64 ax)∧w.cell? ⟨gu,ou+k*4+3,none⟩=some (.int .i64 tx)) (hgo:goB (stp l lt lr ld W H b c j Z) W ax p=true) :
  Calls Tryz.prog 86 #[bv (.slice At nt ct) (.slice (some ⟨gk,ok',none⟩) nk ck) a b c d e W H x r y,sv T Z (.slice (some ⟨gu,ou,none⟩) N cp),.agg #[.int .i64 (k:Int),v,.int .i64 at']] w fun e' w'=>e'=.returned (.int .i64 (endP W ax p))∧Kp w w':=by
 have KA:Kp w (((w.alloc (.cells #[.slice At nt ct,.slice (some ⟨gk,ok',none⟩) nk ck,.int .i64 a,.int .i64 b,.int .i64 c,.int .i64 d,.int .i64 e,.int .i64 W,.int .i64 H,x,r,y] 47)).alloc (.cells #[.int .i64 T,.int .i64 Z,.slice (some ⟨gu,ou,none⟩) N cp] 51)).alloc (.cells #[.int .i64 (k:Int),v,.int .i64 at'] 53)):=(((Kp.refl w).alloc _).alloc _).alloc _
 have s0:cb12 (((w.alloc (.cells #[.slice At nt ct,.slice (some ⟨gk,ok',none⟩) nk ck,.int .i64 a,.int .i64 b,.int .i64 c,.int .i64 d,.int .i64 e,.int .i64 W,.int .i64 H,x,r,y] 47)).alloc (.cells #[.int .i64 T,.int .i64 Z,.slice (some ⟨gu,ou,none⟩) N cp] 51)).alloc (.cells #[.int .i64 (k:Int),v,.int .i64 at'] 53)) (w.heap.size) (.slice At nt ct) (.slice (some ⟨gk,ok',none⟩) nk ck) (.int .i64 a) (.int .i64 b) (.int .i64 c) (.int .i64 d) (.int .i64 e) (.int .i64 W) (.int .i64 H) (x) (r) (y) (cb3 (((w.alloc (.cells #[.slice At nt ct,.slice (some ⟨gk,ok',none⟩) nk ck,.int .i64 a,.int .i64 b,.int .i64 c,.int .i64 d,.int .i64 e,.int .i64 W,.int .i64 H,x,r,y] 47)).alloc (.cells #[.int .i64 T,.int .i64 Z,.slice (some ⟨gu,ou,none⟩) N cp] 51)).alloc (.cells #[.int .i64 (k:Int),v,.int .i64 at'] 53)) (w.heap.size+1) (.int .i64 T) (.int .i64 Z) (.slice (some ⟨gu,ou,none⟩) N cp) (cb3 (((w.alloc (.cells #[.slice At nt ct,.slice (some ⟨gk,ok',none⟩) nk ck,.int .i64 a,.int .i64 b,.int .i64 c,.int .i64 d,.int .i64 e,.int .i64 W,.int .i64 H,x,r,y] 47)).alloc (.cells #[.int .i64 T,.int .i64 Z,.slice (some ⟨gu,ou,none⟩) N cp] 51)).alloc (.cells #[.int .i64 (k:Int),v,.int .i64 at'] 53)) (w.heap.size+1+1) (.int .i64 (k:Int)) (v) (.int .i64 at') ((((w.alloc (.cells #[.slice At nt ct,.slice (some ⟨gk,ok',none⟩) nk ck,.int .i64 a,.int .i64 b,.int .i64 c,.int .i64 d,.int .i64 e,.int .i64 W,.int .i64 H,x,r,y] 47)).alloc (.cells #[.int .i64 T,.int .i64 Z,.slice (some ⟨gu,ou,none⟩) N cp] 51)).alloc (.cells #[.int .i64 (k:Int),v,.int .i64 at'] 53)).cell? ⟨gu,ou+k*4,none⟩=some (.int .i64 sx)∧(((w.alloc (.cells #[.slice At nt ct,.slice (some ⟨gk,ok',none⟩) nk ck,.int .i64 a,.int .i64 b,.int .i64 c,.int .i64 d,.int .i64 e,.int .i64 W,.int .i64 H,x,r,y] 47)).alloc (.cells #[.int .i64 T,.int .i64 Z,.slice (some ⟨gu,ou,none⟩) N cp] 51)).alloc (.cells #[.int .i64 (k:Int),v,.int .i64 at'] 53)).cell? ⟨gu,ou+k*4+1,none⟩=some (.int .i64 (j:Int))∧(((w.alloc (.cells #[.slice At nt ct,.slice (some ⟨gk,ok',none⟩) nk ck,.int .i64 a,.int .i64 b,.int .i64 c,.int .i64 d,.int .i64 e,.int .i64 W,.int .i64 H,x,r,y] 47)).alloc (.cells #[.int .i64 T,.int .i64 Z,.slice (some ⟨gu,ou,none⟩) N cp] 51)).alloc (.cells #[.int .i64 (k:Int),v,.int .i64 at'] 53)).cell? ⟨gu,ou+k*4+2,none⟩=some (.int .i64 ax)∧(((w.alloc (.cells #[.slice At nt ct,.slice (some ⟨gk,ok',none⟩) nk ck,.int .i64 a,.int .i64 b,.int .i64 c,.int .i64 d,.int .i64 e,.int .i64 W,.int .i64 H,x,r,y] 47)).alloc (.cells #[.int .i64 T,.int .i64 Z,.slice (some ⟨gu,ou,none⟩) N cp] 51)).alloc (.cells #[.int .i64 (k:Int),v,.int .i64 at'] 53)).cell? ⟨gu,ou+k*4+3,none⟩=some (.int .i64 tx)∧Kp w (((w.alloc (.cells #[.slice At nt ct,.slice (some ⟨gk,ok',none⟩) nk ck,.int .i64 a,.int .i64 b,.int .i64 c,.int .i64 d,.int .i64 e,.int .i64 W,.int .i64 H,x,r,y] 47)).alloc (.cells #[.int .i64 T,.int .i64 Z,.slice (some ⟨gu,ou,none⟩) N cp] 51)).alloc (.cells #[.int .i64 (k:Int),v,.int .i64 at'] 53))))):=⟨by simp [go_sem],by simp [go_sem],by simp [go_sem],by simp [go_sem],by simp [go_sem],by simp [go_sem],by simp [go_sem],by simp [go_sem],by simp [go_sem],by simp [go_sem],by simp [go_sem],by simp [go_sem],by simp [go_sem],by simp [go_sem],by simp [go_sem],by simp [go_sem],by simp [go_sem],by simp [go_sem],KA.cell q.1,KA.cell q.2.1,KA.cell q.2.2.1,KA.cell q.2.2.2,KA⟩
 have hk':(k:Int)<N:=by omega
 obtain⟨hpt,hwk⟩:=goB_pth hgo
 obtain⟨hl9,hdr⟩:=pth_dir hpt
 obtain⟨g1,g2,g3,g4⟩:=mapOk_side (brdOk_map hok)
 have HON:Hid (∀ q,onI W H (endP W ax (p.take q))=true):=Lib.hid fun q=>wlk_on step_nb (p.take q) ax hx (wlk_take p ax q hwk)
 have HNB:Hid (∀ q z,p[q]?=some z→nbM W H (endP W ax (p.take q)) z=true):=Lib.hid fun q z hz=>by
  have h:=step_nb _ _ (wlk_at p ax q z hwk hz)
  unfold nbB at h
  simp only [Bool.and_eq_true] at h
  exact h.2.2
 have HD:=Lib.hid hdr
 have CN:Hid (∀ (I z:Int) w,onI W H I=true→0≤z∧z≤5→Calls Tryz.prog 123 #[mp W H x r y,.int .i64 I,.int .i64 z] w fun e w'=>e=.returned (.int .i64 (orNo (nbM W H I z) (nbI W I z)))∧Kp w w'):=Lib.hid fun I z w hI hz=>by
  obtain⟨i0,i1⟩:=onI_true hI
  exact mNext_any W H x r y I z w g1 g2 g3 g4 i0 i1 hz.1 hz.2
 obtain⟨A,cq,rfl,hc⟩:=hp
 have HC:=Lib.hid hc
 obtain⟨n,hn⟩:∃ n,n=p.length:=⟨_,rfl⟩
 have HN:=Lib.hid hn
 rw [← hn] at hl9 HC s0 KA ⊢
 obtain⟨E,hE⟩:∃ z,z=endP W ax p:=⟨_,rfl⟩
 rw [← hE]
 have HE:=Lib.hid hE
 clear hok hx q hgo hpt hwk hdr hc hn hE
 go_enter Tryz.func86,Tryz.ntmps86
 go_wp2_with fail
 generalize (((w.alloc (.cells #[.slice At nt ct,.slice (some ⟨gk,ok',none⟩) nk ck,.int .i64 a,.int .i64 b,.int .i64 c,.int .i64 d,.int .i64 e,.int .i64 W,.int .i64 H,x,r,y] 47)).alloc (.cells #[.int .i64 T,.int .i64 Z,.slice (some ⟨gu,ou,none⟩) N cp] 51)).alloc (.cells #[.int .i64 (k:Int),.slice A n cq,.int .i64 at'] 53))=W0 at *
 go_loopw [7,9,20] (fun si _ sq wx=>∃ q:Nat,q≤n∧sq=.int .i64 q∧∃ I:Int,si=.int .i64 I∧Hid (I=endP W ax (p.take q))∧Kp W0 wx) (fun _ _ sq _=>n - (intOf sq).toNat)
 case atStart=>exact⟨0,by omega,rfl,ax,rfl,Lib.hid (by simp [endP]),Kp.refl _⟩
 case round =>
  obtain⟨q,hqn,rfl,I,rfl,HI,kr⟩:=hrel
  have sr:=keepe22 kr s0
  by_cases hlt:q<n
  ·have hlt':(q:Int)<n:=by omega
   obtain⟨g,off,rfl,hc⟩:=HC.out (by omega)
   obtain⟨z,hz⟩:∃ z,p[q]?=some z:=⟨p[q]'(by have:=HN.out;omega),List.getElem?_eq_getElem _⟩
   have a0:=sr.2.2.2.2.2.2.2.2.2.2.2.2.2.2.2.2.2.2.2.2.2.2.cell (hc q z hz)
   have HEZ:Hid (endP W ax (p.take (q+1))=nbI W I z):=Lib.hid (by rw [endP_next hz,HI.out])
   have CQ:=Lib.hid (fun w=>CN.out I z w (by rw [HI.out];exact HON.out q) (HD.out z (List.mem_of_getElem? hz)))
   have hnb:=HNB.out q z hz
   rw [← HI.out] at hnb
   rw [hnb,orNo_true] at CQ
   generalize nbI W I z=J at CQ HEZ
   clear hc hz hnb
   go_wp2_with fail
   refine(CQ.out _).mono ?_
   rintro e3 w3 ⟨rfl,k3⟩
   go_wp2_with fail
   go_roundw
   case rel=>exact⟨q+1,by omega,by go_num,J,rfl,Lib.hid HEZ.out.symm,kr.trans k3⟩
   case measure=>simp [intOf];omega
  ·obtain rfl:q=n:=by omega
   have HT2:Hid (E=I):=Lib.hid (by rw [HE.out,HI.out,HN.out,List.take_length])
   go_wp2_with fail
   go_ret
   exact⟨ret_int HT2.out.symm,sr.2.2.2.2.2.2.2.2.2.2.2.2.2.2.2.2.2.2.2.2.2.2⟩
end Go.Proofs.YtacgknllagdkoaaGreatDoor
