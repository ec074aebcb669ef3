import Derived.Carry
import Derived.Test.YtgefinicjphmpaaGreatDoorQn
import Derived.Test.YtgefinicjphmpaaGreatDoorQs
/-
  The reference's test of a state with its board, of a hex; what it answers for both. Nothing that was there is changed.
-/
namespace Go.Proofs.YtgefinicjphmpaaGreatDoor
open Go.RowKit
theorem sGood_any (At Ak:Option Addr) (nt nk ct ck:Nat) (l:List Ter) (m:List Knd) (a b c d e W H:Int) (x r y:Value) (lt lr ld:List Int) (T Z:Int) (u:Value) (us:List Uni) (w:World) (hB:BrdAt w At Ak nt nk l m x r y lt lr ld) (hS:StaAt w u us) :
    Calls Tryz.prog 58 #[bv (.slice At nt ct) (.slice Ak nk ck) a b c d e W H x r y,sv T Z u] w fun e' w'=>e'=.returned (.bool (brdOk ⟨l,m,a,b,c,d,e⟩ W H lt lr ld && staOk ⟨l,m,a,b,c,d,e⟩ W H lt T Z us))∧Kp w w':=by
  obtain ⟨A,cp,rfl,_⟩:=hS.rd
  cases ho:brdOk ⟨l,m,a,b,c,d,e⟩ W H lt lr ld
  · exact sGood_no0 At Ak nt nk ct ck l m a b c d e W H x r y lt lr ld T Z A us.length cp w hB ho
  rw [Bool.true_and]
  cases h1:spB 0 e T
  · have q0:staOk ⟨l,m,a,b,c,d,e⟩ W H lt T Z us=false:=by simp [staOk,h1]
    rw [q0]
    exact sGood_no1 At Ak nt nk ct ck l m a b c d e W H x r y lt lr ld T Z A us.length cp w hB ho h1
  cases h2:spB 0 2 Z
  · have q0:staOk ⟨l,m,a,b,c,d,e⟩ W H lt T Z us=false:=by simp [staOk,h2]
    rw [q0]
    exact sGood_no2 At Ak nt nk ct ck l m a b c d e W H x r y lt lr ld T Z A us.length cp w hB ho h1 h2
  by_cases h3:us.length ≤ 12
  · have q0:staOk ⟨l,m,a,b,c,d,e⟩ W H lt T Z us=(us.all (uniOk l m W H lt) && us.all (stkOk us a)):=by
      simp only [staOk,h1,h2,h3,decide_true,Bool.true_and]
    rw [q0]
    exact sGood_go At Ak nt nk ct ck l m a b c d e W H x r y lt lr ld T Z A us.length cp us w hB ho hS rfl h1 h2 h3
  · have q0:staOk ⟨l,m,a,b,c,d,e⟩ W H lt T Z us=false:=by simp [staOk,h3]
    rw [q0]
    exact sGood_no3 At Ak nt nk ct ck l m a b c d e W H x r y lt lr ld T Z A us.length cp w hB ho h1 h2 (by omega)
theorem keepv15 {W0 w w1:World} {p0 p1 p2 p3 p4 p5 p6 p7 p8 p9 p10 p11 p12 p13 p14:Addr} {v0 v1 v2 v3 v4 v5 v6 v7 v8 v9 v10 v11 v12 v13 v14:Value} (k:Kp w w1) (h:w.cell? p0=some v0∧w.cell? p1=some v1∧w.cell? p2=some v2∧w.cell? p3=some v3∧w.cell? p4=some v4∧w.cell? p5=some v5∧w.cell? p6=some v6∧w.cell? p7=some v7∧w.cell? p8=some v8∧w.cell? p9=some v9∧w.cell? p10=some v10∧w.cell? p11=some v11∧w.cell? p12=some v12∧w.cell? p13=some v13∧w.cell? p14=some v14∧Kp W0 w):w1.cell? p0=some v0∧w1.cell? p1=some v1∧w1.cell? p2=some v2∧w1.cell? p3=some v3∧w1.cell? p4=some v4∧w1.cell? p5=some v5∧w1.cell? p6=some v6∧w1.cell? p7=some v7∧w1.cell? p8=some v8∧w1.cell? p9=some v9∧w1.cell? p10=some v10∧w1.cell? p11=some v11∧w1.cell? p12=some v12∧w1.cell? p13=some v13∧w1.cell? p14=some v14∧Kp W0 w1 :=
  ⟨k.cell h.1,k.cell h.2.1,k.cell h.2.2.1,k.cell h.2.2.2.1,k.cell h.2.2.2.2.1,k.cell h.2.2.2.2.2.1,k.cell h.2.2.2.2.2.2.1,k.cell h.2.2.2.2.2.2.2.1,k.cell h.2.2.2.2.2.2.2.2.1,k.cell h.2.2.2.2.2.2.2.2.2.1,k.cell h.2.2.2.2.2.2.2.2.2.2.1,k.cell h.2.2.2.2.2.2.2.2.2.2.2.1,k.cell h.2.2.2.2.2.2.2.2.2.2.2.2.1,k.cell h.2.2.2.2.2.2.2.2.2.2.2.2.2.1,k.cell h.2.2.2.2.2.2.2.2.2.2.2.2.2.2.1,h.2.2.2.2.2.2.2.2.2.2.2.2.2.2.2.trans k⟩
set_option maxRecDepth 100000 in
set_option maxHeartbeats 4000000 in
theorem sHex_any (At Ak:Option Addr) (nt nk ct ck:Nat) (l:List Ter) (m:List Knd) (a b c d e W H:Int) (x r y:Value) (lt lr ld:List Int) (T Z:Int) (u:Value) (us:List Uni) (i:Int) (w:World) (hB:BrdAt w At Ak nt nk l m x r y lt lr ld) (hS:StaAt w u us) :
    Calls Tryz.prog 46 #[bv (.slice At nt ct) (.slice Ak nk ck) a b c d e W H x r y,sv T Z u,.int .i64 i] w fun e' w'=>e'=.returned (.bool ((brdOk ⟨l,m,a,b,c,d,e⟩ W H lt lr ld && staOk ⟨l,m,a,b,c,d,e⟩ W H lt T Z us) && onI W H i))∧Kp w w':=by
  have KA:Kp w ((w.alloc (.cells #[.slice At nt ct,.slice Ak nk ck,.int .i64 a,.int .i64 b,.int .i64 c,.int .i64 d,.int .i64 e,.int .i64 W,.int .i64 H,x,r,y] 44)).alloc (.cells #[.int .i64 T,.int .i64 Z,u] 48)):=((Kp.refl w).alloc _).alloc _
  have s0:cb12 ((w.alloc (.cells #[.slice At nt ct,.slice Ak nk ck,.int .i64 a,.int .i64 b,.int .i64 c,.int .i64 d,.int .i64 e,.int .i64 W,.int .i64 H,x,r,y] 44)).alloc (.cells #[.int .i64 T,.int .i64 Z,u] 48)) (w.heap.size) (.slice At nt ct) (.slice Ak nk ck) (.int .i64 a) (.int .i64 b) (.int .i64 c) (.int .i64 d) (.int .i64 e) (.int .i64 W) (.int .i64 H) (x) (r) (y) (cb3 ((w.alloc (.cells #[.slice At nt ct,.slice Ak nk ck,.int .i64 a,.int .i64 b,.int .i64 c,.int .i64 d,.int .i64 e,.int .i64 W,.int .i64 H,x,r,y] 44)).alloc (.cells #[.int .i64 T,.int .i64 Z,u] 48)) (w.heap.size + 1) (.int .i64 T) (.int .i64 Z) (u) (Kp w ((w.alloc (.cells #[.slice At nt ct,.slice Ak nk ck,.int .i64 a,.int .i64 b,.int .i64 c,.int .i64 d,.int .i64 e,.int .i64 W,.int .i64 H,x,r,y] 44)).alloc (.cells #[.int .i64 T,.int .i64 Z,u] 48)))):=⟨by simp [go_sem],by simp [go_sem],by simp [go_sem],by simp [go_sem],by simp [go_sem],by simp [go_sem],by simp [go_sem],by simp [go_sem],by simp [go_sem],by simp [go_sem],by simp [go_sem],by simp [go_sem],by simp [go_sem],by simp [go_sem],by simp [go_sem],KA⟩
  have C2:=Lib.hid (sGood_any At Ak nt nk ct ck l m a b c d e W H x r y lt lr ld T Z u us _ (hB.keep KA) (hS.keep KA))
  cases ho:brdOk ⟨l,m,a,b,c,d,e⟩ W H lt lr ld && staOk ⟨l,m,a,b,c,d,e⟩ W H lt T Z us
  · rw [ho] at C2
    clear hB hS ho
    go_enter Tryz.func46,Tryz.ntmps46
    go_wp2_with fail
    refine C2.out.mono ?_
    rintro e1 w1 ⟨rfl,k1⟩
    go_wp2_with fail
    go_ret
    exact ⟨rfl,KA.trans k1⟩
  · rw [ho] at C2
    have hok:brdOk ⟨l,m,a,b,c,d,e⟩ W H lt lr ld=true:=by
      simp only [Bool.and_eq_true] at ho
      exact ho.1
    obtain ⟨p1,p2,p3,p4⟩:=mapOk_side (brdOk_map hok)
    have hA:=area_bd p1 p2 p3 p4
    have CS:=Lib.hid (fun w=>mSize_any W H x r y w p1 p2 p3 p4)
    have CI:Hid (∀ w,Calls Tryz.prog 47 #[.int .i64 i,.int .i64 0,.int .i64 (W * H - 1)] w fun e w'=>e=.returned (.bool (onI W H i))∧w=w'):=Lib.hid fun w=>l1In_lt i (W * H) _ w rfl
    clear hB hS ho hok p1 p2 p3 p4
    go_enter Tryz.func46,Tryz.ntmps46
    go_wp2_with fail
    refine C2.out.mono ?_
    rintro e1 w1 ⟨rfl,k1⟩
    have s1:=keepv15 k1 s0
    clear s0 k1
    go_wp2_with fail
    refine (CS.out _).mono ?_
    rintro e2 w2 ⟨rfl,k2⟩
    go_wp2_with fail
    refine (CI.out _).mono ?_
    rintro e3 w3 ⟨rfl,rfl⟩
    go_wp2_with fail
    go_ret
    exact ⟨rfl,s1.2.2.2.2.2.2.2.2.2.2.2.2.2.2.2.trans k2⟩
end Go.Proofs.YtgefinicjphmpaaGreatDoor
/-
  What the rows of chapter 6's laws say of the named variables, cell by cell; a world for the witness in which they lie.
-/
namespace Go.Proofs.YtgefinicjphmpaaGreatDoor
open Go.ChangeShapes Go.WideShapes Go.ChangeAt Go.RowKit Go.Joins
theorem sideG:Tryz.prog.globalNamed "loop.example/g00886/impl.sideSpan"=some 0:=by kernel_rfl
theorem sideTy:(Tryz.prog.globals[0]?).map (·.type)=some 129:=by kernel_rfl
theorem weatherG:Tryz.prog.globalNamed "loop.example/g00886/impl.weatherSpan"=some 1:=by kernel_rfl
theorem weatherTy:(Tryz.prog.globals[1]?).map (·.type)=some 129:=by kernel_rfl
theorem unitsG:Tryz.prog.globalNamed "loop.example/g00886/impl.unitsSpan"=some 2:=by kernel_rfl
theorem unitsTy:(Tryz.prog.globals[2]?).map (·.type)=some 129:=by kernel_rfl
theorem laid18_sp {W:World} (h:laidMetH Tryz.prog [("loop.example/g00886/impl.directionSteps",Rows.laid_loop_example_g00886_impl_directionSteps),("loop.example/g00886/impl.terrainsSpan",Rows.laid_loop_example_g00886_impl_terrainsSpan),("loop.example/g00886/impl.costSpan",Rows.laid_loop_example_g00886_impl_costSpan),("loop.example/g00886/impl.shiftSpan",Rows.laid_loop_example_g00886_impl_shiftSpan),("loop.example/g00886/impl.heightSpan",Rows.laid_loop_example_g00886_impl_heightSpan),("loop.example/g00886/impl.kindsSpan",Rows.laid_loop_example_g00886_impl_kindsSpan),("loop.example/g00886/impl.strengthSpan",Rows.laid_loop_example_g00886_impl_strengthSpan),("loop.example/g00886/impl.movesSpan",Rows.laid_loop_example_g00886_impl_movesSpan),("loop.example/g00886/impl.stepsSpan",Rows.laid_loop_example_g00886_impl_stepsSpan),("loop.example/g00886/impl.viewSpan",Rows.laid_loop_example_g00886_impl_viewSpan),("loop.example/g00886/impl.stackSpan",Rows.laid_loop_example_g00886_impl_stackSpan),("loop.example/g00886/impl.riverSpan",Rows.laid_loop_example_g00886_impl_riverSpan),("loop.example/g00886/impl.roadSpan",Rows.laid_loop_example_g00886_impl_roadSpan),("loop.example/g00886/impl.supplySpan",Rows.laid_loop_example_g00886_impl_supplySpan),("loop.example/g00886/impl.turnsSpan",Rows.laid_loop_example_g00886_impl_turnsSpan),("loop.example/g00886/impl.sideSpan",Rows.laid_loop_example_g00886_impl_sideSpan),("loop.example/g00886/impl.weatherSpan",Rows.laid_loop_example_g00886_impl_weatherSpan),("loop.example/g00886/impl.unitsSpan",Rows.laid_loop_example_g00886_impl_unitsSpan)] W):Spans W:=by
  have h':laidMet Tryz.prog [("loop.example/g00886/impl.directionSteps",Rows.laid_loop_example_g00886_impl_directionSteps),("loop.example/g00886/impl.terrainsSpan",Rows.laid_loop_example_g00886_impl_terrainsSpan),("loop.example/g00886/impl.costSpan",Rows.laid_loop_example_g00886_impl_costSpan),("loop.example/g00886/impl.shiftSpan",Rows.laid_loop_example_g00886_impl_shiftSpan),("loop.example/g00886/impl.heightSpan",Rows.laid_loop_example_g00886_impl_heightSpan),("loop.example/g00886/impl.kindsSpan",Rows.laid_loop_example_g00886_impl_kindsSpan),("loop.example/g00886/impl.strengthSpan",Rows.laid_loop_example_g00886_impl_strengthSpan),("loop.example/g00886/impl.movesSpan",Rows.laid_loop_example_g00886_impl_movesSpan),("loop.example/g00886/impl.stepsSpan",Rows.laid_loop_example_g00886_impl_stepsSpan),("loop.example/g00886/impl.viewSpan",Rows.laid_loop_example_g00886_impl_viewSpan),("loop.example/g00886/impl.stackSpan",Rows.laid_loop_example_g00886_impl_stackSpan),("loop.example/g00886/impl.riverSpan",Rows.laid_loop_example_g00886_impl_riverSpan),("loop.example/g00886/impl.roadSpan",Rows.laid_loop_example_g00886_impl_roadSpan),("loop.example/g00886/impl.supplySpan",Rows.laid_loop_example_g00886_impl_supplySpan),("loop.example/g00886/impl.turnsSpan",Rows.laid_loop_example_g00886_impl_turnsSpan),("loop.example/g00886/impl.sideSpan",Rows.laid_loop_example_g00886_impl_sideSpan),("loop.example/g00886/impl.weatherSpan",Rows.laid_loop_example_g00886_impl_weatherSpan),("loop.example/g00886/impl.unitsSpan",Rows.laid_loop_example_g00886_impl_unitsSpan)] W:=h
  obtain ⟨ps,hl,_⟩:=h'
  exact ⟨span_of terrainsG terrainsTy (laid_one hl (.tail _ (.head _))),span_of costG costTy (laid_one hl (.tail _ (.tail _ (.head _)))),span_of shiftG shiftTy (laid_one hl (.tail _ (.tail _ (.tail _ (.head _))))),span_of heightG heightTy (laid_one hl (.tail _ (.tail _ (.tail _ (.tail _ (.head _)))))),span_of kindsG kindsTy (laid_one hl (.tail _ (.tail _ (.tail _ (.tail _ (.tail _ (.head _))))))),span_of strengthG strengthTy (laid_one hl (.tail _ (.tail _ (.tail _ (.tail _ (.tail _ (.tail _ (.head _)))))))),span_of movesG movesTy (laid_one hl (.tail _ (.tail _ (.tail _ (.tail _ (.tail _ (.tail _ (.tail _ (.head _))))))))),span_of stepsG stepsTy (laid_one hl (.tail _ (.tail _ (.tail _ (.tail _ (.tail _ (.tail _ (.tail _ (.tail _ (.head _)))))))))),span_of viewG viewTy (laid_one hl (.tail _ (.tail _ (.tail _ (.tail _ (.tail _ (.tail _ (.tail _ (.tail _ (.tail _ (.head _))))))))))),span_of stackG stackTy (laid_one hl (.tail _ (.tail _ (.tail _ (.tail _ (.tail _ (.tail _ (.tail _ (.tail _ (.tail _ (.tail _ (.head _)))))))))))),span_of riverG riverTy (laid_one hl (.tail _ (.tail _ (.tail _ (.tail _ (.tail _ (.tail _ (.tail _ (.tail _ (.tail _ (.tail _ (.tail _ (.head _))))))))))))),span_of roadG roadTy (laid_one hl (.tail _ (.tail _ (.tail _ (.tail _ (.tail _ (.tail _ (.tail _ (.tail _ (.tail _ (.tail _ (.tail _ (.tail _ (.head _)))))))))))))),span_of supplyG supplyTy (laid_one hl (.tail _ (.tail _ (.tail _ (.tail _ (.tail _ (.tail _ (.tail _ (.tail _ (.tail _ (.tail _ (.tail _ (.tail _ (.tail _ (.head _))))))))))))))),span_of turnsG turnsTy (laid_one hl (.tail _ (.tail _ (.tail _ (.tail _ (.tail _ (.tail _ (.tail _ (.tail _ (.tail _ (.tail _ (.tail _ (.tail _ (.tail _ (.tail _ (.head _))))))))))))))))⟩
theorem laid18_tab {W:World} (h:laidMetH Tryz.prog [("loop.example/g00886/impl.directionSteps",Rows.laid_loop_example_g00886_impl_directionSteps),("loop.example/g00886/impl.terrainsSpan",Rows.laid_loop_example_g00886_impl_terrainsSpan),("loop.example/g00886/impl.costSpan",Rows.laid_loop_example_g00886_impl_costSpan),("loop.example/g00886/impl.shiftSpan",Rows.laid_loop_example_g00886_impl_shiftSpan),("loop.example/g00886/impl.heightSpan",Rows.laid_loop_example_g00886_impl_heightSpan),("loop.example/g00886/impl.kindsSpan",Rows.laid_loop_example_g00886_impl_kindsSpan),("loop.example/g00886/impl.strengthSpan",Rows.laid_loop_example_g00886_impl_strengthSpan),("loop.example/g00886/impl.movesSpan",Rows.laid_loop_example_g00886_impl_movesSpan),("loop.example/g00886/impl.stepsSpan",Rows.laid_loop_example_g00886_impl_stepsSpan),("loop.example/g00886/impl.viewSpan",Rows.laid_loop_example_g00886_impl_viewSpan),("loop.example/g00886/impl.stackSpan",Rows.laid_loop_example_g00886_impl_stackSpan),("loop.example/g00886/impl.riverSpan",Rows.laid_loop_example_g00886_impl_riverSpan),("loop.example/g00886/impl.roadSpan",Rows.laid_loop_example_g00886_impl_roadSpan),("loop.example/g00886/impl.supplySpan",Rows.laid_loop_example_g00886_impl_supplySpan),("loop.example/g00886/impl.turnsSpan",Rows.laid_loop_example_g00886_impl_turnsSpan),("loop.example/g00886/impl.sideSpan",Rows.laid_loop_example_g00886_impl_sideSpan),("loop.example/g00886/impl.weatherSpan",Rows.laid_loop_example_g00886_impl_weatherSpan),("loop.example/g00886/impl.unitsSpan",Rows.laid_loop_example_g00886_impl_unitsSpan)] W):Tab W:=by
  have h':laidMet Tryz.prog [("loop.example/g00886/impl.directionSteps",Rows.laid_loop_example_g00886_impl_directionSteps),("loop.example/g00886/impl.terrainsSpan",Rows.laid_loop_example_g00886_impl_terrainsSpan),("loop.example/g00886/impl.costSpan",Rows.laid_loop_example_g00886_impl_costSpan),("loop.example/g00886/impl.shiftSpan",Rows.laid_loop_example_g00886_impl_shiftSpan),("loop.example/g00886/impl.heightSpan",Rows.laid_loop_example_g00886_impl_heightSpan),("loop.example/g00886/impl.kindsSpan",Rows.laid_loop_example_g00886_impl_kindsSpan),("loop.example/g00886/impl.strengthSpan",Rows.laid_loop_example_g00886_impl_strengthSpan),("loop.example/g00886/impl.movesSpan",Rows.laid_loop_example_g00886_impl_movesSpan),("loop.example/g00886/impl.stepsSpan",Rows.laid_loop_example_g00886_impl_stepsSpan),("loop.example/g00886/impl.viewSpan",Rows.laid_loop_example_g00886_impl_viewSpan),("loop.example/g00886/impl.stackSpan",Rows.laid_loop_example_g00886_impl_stackSpan),("loop.example/g00886/impl.riverSpan",Rows.laid_loop_example_g00886_impl_riverSpan),("loop.example/g00886/impl.roadSpan",Rows.laid_loop_example_g00886_impl_roadSpan),("loop.example/g00886/impl.supplySpan",Rows.laid_loop_example_g00886_impl_supplySpan),("loop.example/g00886/impl.turnsSpan",Rows.laid_loop_example_g00886_impl_turnsSpan),("loop.example/g00886/impl.sideSpan",Rows.laid_loop_example_g00886_impl_sideSpan),("loop.example/g00886/impl.weatherSpan",Rows.laid_loop_example_g00886_impl_weatherSpan),("loop.example/g00886/impl.unitsSpan",Rows.laid_loop_example_g00886_impl_unitsSpan)] W:=h
  obtain ⟨ps,hl,_⟩:=h'
  exact tab_of_laid1 (laid_one hl (.head _))
theorem laid18_un {W:World} (h:laidMetH Tryz.prog [("loop.example/g00886/impl.directionSteps",Rows.laid_loop_example_g00886_impl_directionSteps),("loop.example/g00886/impl.terrainsSpan",Rows.laid_loop_example_g00886_impl_terrainsSpan),("loop.example/g00886/impl.costSpan",Rows.laid_loop_example_g00886_impl_costSpan),("loop.example/g00886/impl.shiftSpan",Rows.laid_loop_example_g00886_impl_shiftSpan),("loop.example/g00886/impl.heightSpan",Rows.laid_loop_example_g00886_impl_heightSpan),("loop.example/g00886/impl.kindsSpan",Rows.laid_loop_example_g00886_impl_kindsSpan),("loop.example/g00886/impl.strengthSpan",Rows.laid_loop_example_g00886_impl_strengthSpan),("loop.example/g00886/impl.movesSpan",Rows.laid_loop_example_g00886_impl_movesSpan),("loop.example/g00886/impl.stepsSpan",Rows.laid_loop_example_g00886_impl_stepsSpan),("loop.example/g00886/impl.viewSpan",Rows.laid_loop_example_g00886_impl_viewSpan),("loop.example/g00886/impl.stackSpan",Rows.laid_loop_example_g00886_impl_stackSpan),("loop.example/g00886/impl.riverSpan",Rows.laid_loop_example_g00886_impl_riverSpan),("loop.example/g00886/impl.roadSpan",Rows.laid_loop_example_g00886_impl_roadSpan),("loop.example/g00886/impl.supplySpan",Rows.laid_loop_example_g00886_impl_supplySpan),("loop.example/g00886/impl.turnsSpan",Rows.laid_loop_example_g00886_impl_turnsSpan),("loop.example/g00886/impl.sideSpan",Rows.laid_loop_example_g00886_impl_sideSpan),("loop.example/g00886/impl.weatherSpan",Rows.laid_loop_example_g00886_impl_weatherSpan),("loop.example/g00886/impl.unitsSpan",Rows.laid_loop_example_g00886_impl_unitsSpan)] W):SpU W:=by
  have h':laidMet Tryz.prog [("loop.example/g00886/impl.directionSteps",Rows.laid_loop_example_g00886_impl_directionSteps),("loop.example/g00886/impl.terrainsSpan",Rows.laid_loop_example_g00886_impl_terrainsSpan),("loop.example/g00886/impl.costSpan",Rows.laid_loop_example_g00886_impl_costSpan),("loop.example/g00886/impl.shiftSpan",Rows.laid_loop_example_g00886_impl_shiftSpan),("loop.example/g00886/impl.heightSpan",Rows.laid_loop_example_g00886_impl_heightSpan),("loop.example/g00886/impl.kindsSpan",Rows.laid_loop_example_g00886_impl_kindsSpan),("loop.example/g00886/impl.strengthSpan",Rows.laid_loop_example_g00886_impl_strengthSpan),("loop.example/g00886/impl.movesSpan",Rows.laid_loop_example_g00886_impl_movesSpan),("loop.example/g00886/impl.stepsSpan",Rows.laid_loop_example_g00886_impl_stepsSpan),("loop.example/g00886/impl.viewSpan",Rows.laid_loop_example_g00886_impl_viewSpan),("loop.example/g00886/impl.stackSpan",Rows.laid_loop_example_g00886_impl_stackSpan),("loop.example/g00886/impl.riverSpan",Rows.laid_loop_example_g00886_impl_riverSpan),("loop.example/g00886/impl.roadSpan",Rows.laid_loop_example_g00886_impl_roadSpan),("loop.example/g00886/impl.supplySpan",Rows.laid_loop_example_g00886_impl_supplySpan),("loop.example/g00886/impl.turnsSpan",Rows.laid_loop_example_g00886_impl_turnsSpan),("loop.example/g00886/impl.sideSpan",Rows.laid_loop_example_g00886_impl_sideSpan),("loop.example/g00886/impl.weatherSpan",Rows.laid_loop_example_g00886_impl_weatherSpan),("loop.example/g00886/impl.unitsSpan",Rows.laid_loop_example_g00886_impl_unitsSpan)] W:=h
  obtain ⟨ps,hl,_⟩:=h'
  exact ⟨span_of sideG sideTy (laid_one hl (.tail _ (.tail _ (.tail _ (.tail _ (.tail _ (.tail _ (.tail _ (.tail _ (.tail _ (.tail _ (.tail _ (.tail _ (.tail _ (.tail _ (.tail _ (.head _))))))))))))))))),span_of weatherG weatherTy (laid_one hl (.tail _ (.tail _ (.tail _ (.tail _ (.tail _ (.tail _ (.tail _ (.tail _ (.tail _ (.tail _ (.tail _ (.tail _ (.tail _ (.tail _ (.tail _ (.tail _ (.head _)))))))))))))))))),span_of unitsG unitsTy (laid_one hl (.tail _ (.tail _ (.tail _ (.tail _ (.tail _ (.tail _ (.tail _ (.tail _ (.tail _ (.tail _ (.tail _ (.tail _ (.tail _ (.tail _ (.tail _ (.tail _ (.tail _ (.head _)))))))))))))))))))⟩
noncomputable def laidWorldU (os:Os):World :=
  (setVar (setVar (setVar (laidWorldS os) 0 #[.int .i64 0,.int .i64 1]) 1 #[.int .i64 0,.int .i64 2]) 2 #[.int .i64 0,.int .i64 12])
theorem lenv18 {α:Type} {l:List α} (h:l.length=18):∃ x0 x1 x2 x3 x4 x5 x6 x7 x8 x9 x10 x11 x12 x13 x14 x15 x16 x17,l=[x0,x1,x2,x3,x4,x5,x6,x7,x8,x9,x10,x11,x12,x13,x14,x15,x16,x17]:=by
  match l,h with
  | [x0,x1,x2,x3,x4,x5,x6,x7,x8,x9,x10,x11,x12,x13,x14,x15,x16,x17],_=>exact ⟨_,_,_,_,_,_,_,_,_,_,_,_,_,_,_,_,_,_,rfl⟩
end Go.Proofs.YtgefinicjphmpaaGreatDoor
