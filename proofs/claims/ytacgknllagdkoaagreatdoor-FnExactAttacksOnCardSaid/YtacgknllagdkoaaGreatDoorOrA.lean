/-
 Orders and sheets as arguments of the laws: how they read, their sizes, their copies (in memory of their own), their comparison. Nothing that was there is changed.
-/
import Derived.Test.YtacgknllagdkoaaGreatDoorOrM
import Derived.Test.YtacgknllagdkoaaGreatDoorQa
import Derived.Test.YtacgknllagdkoaaGreatDoorQh
import Derived.Test.YtacgknllagdkoaaGreatDoorQk
import Derived.Test.YtacgknllagdkoaaGreatDoorQm
import Derived.Test.YtacgknllagdkoaaGreatDoorQa
namespace Go.Proofs.YtacgknllagdkoaaGreatDoor
open Go.ChangeShapes Go.WideShapes Go.ChangeAt Go.RowKit Go.Joins Go.Deep
abbrev ov (u:Int) (v:Value) (a:Int):Value:=.agg #[.int .i64 u,v,.int .i64 a]
/-- The cells of an order, whose path reads as a list. -/
def OdrAt (w:World) (g o:Nat) (x:Odr):Prop :=
 ∃ A c,(w.cell? ⟨g,o,none⟩=some (.int .i64 x.u)∧w.cell? ⟨g,o+1,none⟩=some (.slice A x.p.length c)∧w.cell? ⟨g,o+2,none⟩=some (.int .i64 x.a))∧RdI w (.slice A x.p.length c) x.p
theorem OdrAt.keep {w w':World} {g o:Nat} {x:Odr} (h:OdrAt w g o x) (k:Kp w w'):OdrAt w' g o x:=by
 obtain⟨A,c,h,hr⟩:=h
 exact⟨A,c,⟨k.cell h.1,k.cell h.2.1,k.cell h.2.2⟩,hr.keep k⟩
def RdO (w:World) (A:Option Addr) (n:Nat) (l:List Odr):Prop :=
 l.length=n∧(0<n→∃ g off,A=some ⟨g,off,none⟩∧∀ i x,l[i]?=some x→OdrAt w g (off+i*3) x)
theorem RdO.keep {w w':World} {A:Option Addr} {n:Nat} {l:List Odr} (h:RdO w A n l) (k:Kp w w'):RdO w' A n l:=⟨h.1,fun h0=>by
 obtain⟨g,off,e,hc⟩:=h.2 h0
 exact⟨g,off,e,fun i x hx=>(hc i x hx).keep k⟩⟩
/-! ### one order -/
set_option maxRecDepth 100000 in
theorem szOrder_any (u a:Int) (v:Value) (p:List Int) (left:Int) (w:World) (h0:0≤left) (h1:left≤1048576) (hp:RdI w v p) (hc:p.length≤9223372036854775807) :
  Calls Tryz.prog 16 #[ov u v a,.int .i64 left] w (SzPost (p.length≤1048576) w):=by
 obtain⟨A,c,rfl,_⟩:=hp
 generalize p.length=n at hc ⊢
 by_cases a1:(n:Int)≤left
 ·have a1':¬ (left - n)<0:=by omega
  go_enter Tryz.func16,Tryz.ntmps16
  go_wp2_with fail
  refine(szIntS_yes _ _ _ _ _ a1 h0 h1).mono ?_
  rintro e1 w1 ⟨rfl,rfl⟩
  go_wp2_with fail
  go_ret
  exact⟨_,rfl,by omega,by omega,fun _=>(by omega),(Kp.refl _).alloc _⟩
 ·go_enter Tryz.func16,Tryz.ntmps16
  go_wp2_with fail
  refine(szIntS_no _ _ _ _ _ (by omega) h0 h1 hc).mono ?_
  rintro e1 w1 ⟨rfl,rfl⟩
  go_wp2_with fail
  go_ret
  exact⟨_,rfl,by omega,by omega,fun h=>absurd h (by omega),(Kp.refl _).alloc _⟩
set_option maxRecDepth 100000 in
set_option maxHeartbeats 1000000 in
theorem toOrder_any (u a:Int) (v:Value) (l:List Int) (w:World) (hr:RdI w v l) (hn:l.length≤1048576) :
  Calls Tryz.prog 20 #[ov u v a] w fun e w'=>∃ A' c',e=.returned (ov u (.slice A' l.length c') a)∧OwnI w' (w.heap.size+1) (.slice A' l.length c') l∧Kp w w':=by
 have C:Hid (∀ w,RdI w v l→Calls Tryz.prog 51 #[v] w fun e w'=>∃ A c,e=.returned (.slice A l.length c)∧OwnI w' w.heap.size (.slice A l.length c) l∧Kp w w'):=Lib.hid fun w h=>toIntS_sl _ l w h hn
 have HR:=Lib.hid hr
 clear hr
 go_enter Tryz.func20,Tryz.ntmps20
 go_wp2_with fail
 have k0:Kp w (((w.alloc (.cells #[.int .i64 u,v,.int .i64 a] 35)).alloc (.cells #[.int .i64 0,.slice none 0 0,.int .i64 0] 53)).alloc (.cells #[.int .i64 u,.slice none 0 0,.int .i64 0] 53)):=(((Kp.refl w).alloc _).alloc _).alloc _
 refine(C.out _ (HR.out.keep k0)).mono ?_
 rintro e1 w1 ⟨A1,c1,rfl,o1,k1⟩
 have a2:w1.cell? ⟨w.heap.size,2,none⟩=some (.int .i64 a):=k1.cell (by simp [go_sem])
 have l0:=k1.liv (p:=⟨w.heap.size+1,0,none⟩) (v:=.int .i64 0) ⟨by simp [go_sem],by simp [go_sem]⟩
 have l1:=k1.liv (p:=⟨w.heap.size+1,1,none⟩) (v:=.slice none 0 0) ⟨by simp [go_sem],by simp [go_sem]⟩
 have l2:=k1.liv (p:=⟨w.heap.size+1,2,none⟩) (v:=.int .i64 0) ⟨by simp [go_sem],by simp [go_sem]⟩
 have m0:=k1.liv (p:=⟨w.heap.size+1+1,0,none⟩) (v:=.int .i64 u) ⟨by simp [go_sem],by simp [go_sem]⟩
 have m1:=k1.liv (p:=⟨w.heap.size+1+1,1,none⟩) (v:=.slice none 0 0) ⟨by simp [go_sem],by simp [go_sem]⟩
 have m2:=k1.liv (p:=⟨w.heap.size+1+1,2,none⟩) (v:=.int .i64 0) ⟨by simp [go_sem],by simp [go_sem]⟩
 obtain⟨l0a,l0b⟩:=l0
 obtain⟨l1a,l1b⟩:=l1
 obtain⟨l2a,l2b⟩:=l2
 obtain⟨m0a,m0b⟩:=m0
 obtain⟨m1a,m1b⟩:=m1
 obtain⟨m2a,m2b⟩:=m2
 have K1:Kp w w1:=k0.trans k1
 have z1:w.heap.size+3≤w1.heap.size:=by have:=k1.size;simp at this;omega
 have O1:=Lib.hid (o1.base (b:=w.heap.size+3) (by simp <;> omega))
 clear k0 k1 o1
 go_wp2_with fail
 have n1:∀ g,g<w.heap.size+3→(Value.slice A1 l.length c1).ownBlock ≠ some g:=fun g hg=>O1.out.not (by omega)
 refine bodyPost_ret (v:=ov u (.slice A1 l.length c1) a) (by simp [results,Tryz.results20,go_sem, *]) rfl ⟨_,_,rfl,?_,?_⟩
 ·exact(((((O1.out.far (n1 _ (by omega)) _).far (n1 _ (by omega)) _).far (n1 _ (by omega)) _).far (n1 _ (by omega)) _).far (n1 _ (by omega)) _).base (by omega)
 ·exact((((K1.setCell (by simp <;> omega) _).setCell (by simp <;> omega) _).setCell (by simp <;> omega) _).setCell (by simp <;> omega) _).setCell (by simp <;> omega) _
set_option maxRecDepth 100000 in
set_option maxHeartbeats 1000000 in
theorem eqOrder_same (u a:Int) (v v':Value) (l:List Int) (w:World) (ha:RdI w v l) (hb:RdI w v' l) (hl:l.length≤1048576) :
  Calls Tryz.prog 24 #[ov u v a,ov u v' a] w fun e w'=>e=.returned (.bool true)∧Kp w w':=by
 have KA:Kp w ((w.alloc (.cells #[.int .i64 u,v,.int .i64 a] 53)).alloc (.cells #[.int .i64 u,v',.int .i64 a] 53)):=((Kp.refl w).alloc _).alloc _
 have HA:=Lib.hid (ha.keep KA)
 have HB:=Lib.hid (hb.keep KA)
 have e2:(u != u)=false:=by simp
 have e3:(a != a)=false:=by simp
 have HL:=Lib.hid hl
 clear ha hb hl
 go_enter Tryz.func24,Tryz.ntmps24
 go_wp2_with fail
 refine(eqIntS_same _ _ l _ HA.out HB.out HL.out).mono ?_
 rintro x1 w1 ⟨rfl,k1⟩
 have p2:w1.cell? ⟨w.heap.size,2,none⟩=some (.int .i64 a):=k1.cell (by simp [go_sem])
 have q2:w1.cell? ⟨w.heap.size+1,2,none⟩=some (.int .i64 a):=k1.cell (by simp [go_sem])
 have K1:Kp w w1:=KA.trans k1
 clear k1 KA
 go_wp2_with fail
 go_ret
 exact⟨rfl,K1⟩
theorem cellsOdr:Tryz.prog.cellsOf 35=3:=by kernel_rfl
end Go.Proofs.YtacgknllagdkoaaGreatDoor
