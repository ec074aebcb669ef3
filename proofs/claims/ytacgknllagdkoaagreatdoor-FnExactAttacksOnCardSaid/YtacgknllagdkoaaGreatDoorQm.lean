/-
 Texts of this seat in one module: UnO, UnM, StO.
-/
import Derived.Test.YtacgknllagdkoaaGreatDoorQe
import Derived.Test.YtacgknllagdkoaaGreatDoorQj
import Derived.Test.YtacgknllagdkoaaGreatDoorQk
import Derived.Test.YtacgknllagdkoaaGreatDoorQl
/-
 Slices of units as lists of records: the laws' size, copy, comparison, marking and look; an argument of that type.
-/
namespace Go.Proofs.YtacgknllagdkoaaGreatDoor
open Go.ChangeShapes Go.WideShapes Go.ChangeAt Go.RowKit Go.Joins Go.Deep
structure Uni where
 s:Int
 k:Int
 a:Int
 t:Int
abbrev ux (s k a t:Int):Value:=.agg #[.int .i64 s,.int .i64 k,.int .i64 a,.int .i64 t]
def UniAt (w:World) (g o:Nat) (x:Uni):Prop:=w.cell? ⟨g,o,none⟩=some (.int .i64 x.s)∧w.cell? ⟨g,o+1,none⟩=some (.int .i64 x.k)∧w.cell? ⟨g,o+2,none⟩=some (.int .i64 x.a)∧w.cell? ⟨g,o+3,none⟩=some (.int .i64 x.t)
theorem UniAt.keep {w w':World} {g o:Nat} {x:Uni} (h:UniAt w g o x) (k:Kp w w'):UniAt w' g o x:=⟨k.cell h.1,k.cell h.2.1,k.cell h.2.2.1,k.cell h.2.2.2⟩
def UniI (x:Uni):Prop:=isI64 x.s∧isI64 x.k∧isI64 x.a∧isI64 x.t
/-- The slice v reads as the list l. -/
def RdU (w:World) (v:Value) (l:List Uni):Prop :=
 ∃ A c,v=.slice A l.length c∧(0<l.length→∃ g off,A=some ⟨g,off,none⟩∧∀ i x,l[i]?=some x→UniAt w g (off+i*4) x)
theorem RdU.keep {w w':World} {v:Value} {l:List Uni} (h:RdU w v l) (hk:Kp w w'):RdU w' v l:=by
 obtain⟨A,c,rfl,h⟩:=h
 refine⟨A,c,rfl,fun h0=>?_⟩
 obtain⟨g,off,rfl,hc⟩:=h h0
 exact⟨g,off,rfl,fun i x hx=>(hc i x hx).keep hk⟩
def cellsU:List Uni→List Value
 | []=>[]
 | x :: l=>.int .i64 x.s :: .int .i64 x.k :: .int .i64 x.a :: .int .i64 x.t :: cellsU l
theorem cellsU_length:∀ l,(cellsU l).length=l.length*4
 | []=>rfl
 | x :: l=>by simp only [cellsU,List.length_cons,cellsU_length l];omega
theorem cellsU_at:∀ (l:List Uni) (i:Nat) (x:Uni),l[i]?=some x→(cellsU l)[i*4]?=some (.int .i64 x.s)∧(cellsU l)[i*4+1]?=some (.int .i64 x.k)∧(cellsU l)[i*4+2]?=some (.int .i64 x.a)∧(cellsU l)[i*4+3]?=some (.int .i64 x.t)
 | [],_,_,h=>by simp at h
 | y :: l,0,x,h=>by
  simp only [List.getElem?_cons_zero,Option.some.injEq] at h
  subst h
  exact⟨rfl,rfl,rfl,rfl⟩
 | y :: l,i+1,x,h=>by
  have:=cellsU_at l i x (by simpa using h)
  have e1:(i+1)*4=i*4+1+1+1+1:=by omega
  rw [e1]
  exact⟨(by simpa [cellsU] using this.1),(by simpa [cellsU] using this.2.1),(by simpa [cellsU] using this.2.2.1),(by simpa [cellsU] using this.2.2.2)⟩
/-- The slice v owns the list l, in a block from base on. -/
def OwnU (w:World) (base:Nat) (v:Value) (l:List Uni):Prop:=w.ownsRow base 152 4 v l.length (cellsU l)
theorem OwnU.rd {w:World} {base:Nat} {v:Value} {l:List Uni} (h:OwnU w base v l):RdU w v l:=by
 rcases h.2 with ⟨rfl,hn⟩ | ⟨g,cap,cur,rfl,hb,hg,hc,hm,hs,ht⟩
 ·exact⟨none,0,by rw [hn],fun h0=>by omega⟩
 ·refine⟨_,_,rfl,fun _=>⟨g,0,rfl,fun i x hx=>?_⟩⟩
  have hi:i<l.length:=(List.getElem?_eq_some_iff.1 hx).1
  have e:=cellsU_at l i x hx
  rw [Nat.zero_add]
  exact⟨(World.ownsRow.cellAt h (i*4) (by omega)).trans e.1,(World.ownsRow.cellAt h (i*4+1) (by omega)).trans e.2.1,(World.ownsRow.cellAt h (i*4+2) (by omega)).trans e.2.2.1,(World.ownsRow.cellAt h (i*4+3) (by omega)).trans e.2.2.2⟩
theorem OwnU.base {w:World} {base b:Nat} {v:Value} {l:List Uni} (h:OwnU w base v l) (hb:b≤base):OwnU w b v l:=ownsRow_base h hb
theorem OwnU.keep {w w':World} {base:Nat} {v:Value} {l:List Uni} (h:OwnU w base v l) (hk:Kp w w'):OwnU w' base v l:=ownsRow_keep h hk
theorem infoUnit:(Tryz.prog.info? 152).map (fun i=>(i.zero,i.size,i.bytes))=some (some (ux 0 0 0 0),4,32):=by kernel_rfl
theorem OwnU.far {w:World} {base:Nat} {v:Value} {l:List Uni} (h:OwnU w base v l) {g j:Nat} (hne:v.ownBlock ≠ some g) (u:Value):OwnU (w.setCell ⟨g,j,none⟩ u) base v l :=
 World.ownsRow.kept h (grown_set w g j u) (.inr hne)
theorem OwnU.not {w:World} {base:Nat} {v:Value} {l:List Uni} (h:OwnU w base v l) {g:Nat} (hg:g<base):v.ownBlock ≠ some g:=fun e=>by
 have:=(World.ownsRow.lt h g e).1
 omega
theorem keep8u {w w1:World} {p0 p1 p2 p3 p4 p5 p6 p7:Addr} {v0 v1 v2 v3 v4 v5 v6 v7:Value} (k:Kp w w1) (h:w.cell? p0=some v0∧w.cell? p1=some v1∧w.cell? p2=some v2∧w.cell? p3=some v3∧w.cell? p4=some v4∧w.cell? p5=some v5∧w.cell? p6=some v6∧w.cell? p7=some v7):w1.cell? p0=some v0∧w1.cell? p1=some v1∧w1.cell? p2=some v2∧w1.cell? p3=some v3∧w1.cell? p4=some v4∧w1.cell? p5=some v5∧w1.cell? p6=some v6∧w1.cell? p7=some v7 :=
 ⟨k.cell h.1,k.cell h.2.1,k.cell h.2.2.1,k.cell h.2.2.2.1,k.cell h.2.2.2.2.1,k.cell h.2.2.2.2.2.1,k.cell h.2.2.2.2.2.2.1,k.cell h.2.2.2.2.2.2.2⟩
theorem eqUnit_same (s k a t:Int) (w:World) :
  Calls Tryz.prog 142 #[ux s k a t,ux s k a t] w fun e' w'=>e'=.returned (.bool true)∧Kp w w':=by
 have e0:(s != s)=false:=by simp
 have e1:(k != k)=false:=by simp
 have e2:(a != a)=false:=by simp
 have e3:(t != t)=false:=by simp
 go_enter Tryz.func142,Tryz.ntmps142
 go_wp2
 go_ret
 exact⟨rfl,((Kp.refl _).alloc _).alloc _⟩
set_option maxRecDepth 100000 in
theorem toUnit_any (s k a t:Int) (w:World) :
  Calls Tryz.prog 133 #[ux s k a t] w fun e' w'=>e'=.returned (ux s k a t)∧Kp w w':=by
 go_enter Tryz.func133,Tryz.ntmps133
 go_wp2
 exact bodyPost_ret (v:=ux s k a t) (by simp [results,Tryz.results133,go_sem]) rfl ⟨rfl,(((Kp.refl _).alloc _).alloc _).alloc _⟩
theorem szUnitS_yes (A:Option Addr) (n c:Nat) (left:Int) (w:World) (h:(n:Int)≤left) (h0:0≤left) (h1:left≤1048576) :
  Calls Tryz.prog 60 #[.slice A n c,.int .i64 left] w fun e w'=>e=.returned (.int .i64 (left - n))∧w=w':=by
 go_enter Tryz.func60,Tryz.ntmps60
 go_wp2
 go_ret
 exact⟨rfl,rfl⟩
theorem szUnitS_no (A:Option Addr) (n c:Nat) (left:Int) (w:World) (h:left<n) (h0:0≤left) (h1:left≤1048576) (hn:n≤9223372036854775807) :
  Calls Tryz.prog 60 #[.slice A n c,.int .i64 left] w fun e w'=>e=.returned (.int .i64 (-1))∧w=w':=by
 go_enter Tryz.func60,Tryz.ntmps60
 go_wp2
 go_ret
 exact⟨rfl,rfl⟩
theorem mkUnitN (n:Nat) (hn:n≤1048576) (w:World) :
  (Instr.makeSlice 49 (.int .i64 (n:Int)) (.int .i64 (n:Int))).run Tryz.prog w=.ok (.slice (some ⟨w.heap.size,0,none⟩) n n) (w.alloc (.cells (madeCells (ux 0 0 0 0).cells (n*4)) 152)):=by
 obtain⟨i,hi,hz,hs,hb⟩:=info_parts infoUnit
 have hr:=run_make (P:=Tryz.prog) w 49 152 i (ux 0 0 0 0) Tryz.underlying49 hi hz .i64 .i64 (n:Int) (n:Int) (by omega) (Int.le_refl _) (by rw [hb];omega) (by omega)
 rw [hs,Int.toNat_natCast] at hr
 exact hr
set_option maxRecDepth 100000 in
set_option maxHeartbeats 1000000 in
theorem toUnitS_any (v:Value) (l:List Uni) (w:World) (h:RdU w v l) (hl:l.length≤1048576) :
  Calls Tryz.prog 67 #[v] w fun e w'=>∃ g,e=.returned (.slice (some ⟨g,0,none⟩) l.length l.length)∧OwnU w' w.heap.size (.slice (some ⟨g,0,none⟩) l.length l.length) l∧Kp w w':=by
 obtain⟨A,c,rfl,h⟩:=h
 have HA:=Lib.hid h
 clear h
 obtain⟨n,hn⟩:∃ n,l.length=n:=⟨_,rfl⟩
 have HN:=Lib.hid hn
 rw [hn] at hl ⊢
 rw [hn] at HA
 clear hn
 have hmk:=fun w=>mkUnitN n hl w
 have own0:(w.alloc (.cells (madeCells #[.int .i64 0,.int .i64 0,.int .i64 0,.int .i64 0] (n*4)) 152)).ownsRow w.heap.size 152 4 (.slice (some ⟨w.heap.size,0,none⟩) n n) n (madeCells #[.int .i64 0,.int .i64 0,.int .i64 0,.int .i64 0] (n*4)).toList :=
  World.ownsRow_lit w _ n (Nat.le_refl _) (by simp only [maxLen];omega) (by rw [size_madeCells])
 go_enter Tryz.func67,Tryz.ntmps67
 go_wp2_with fail
 go_loopw [4] (fun i wr=>∃ k:Nat,k≤n∧i=.int .i64 k∧(∃ ys,wr.ownsRow w.heap.size 152 4 (.slice (some ⟨w.heap.size,0,none⟩) n n) n ys∧∀ j x,j<k→l[j]?=some x→ys[j*4]?=some (.int .i64 x.s)∧ys[j*4+1]?=some (.int .i64 x.k)∧ys[j*4+2]?=some (.int .i64 x.a)∧ys[j*4+3]?=some (.int .i64 x.t))∧Kp w wr) (fun i _=>n - (intOf i).toNat)
 case atStart=>exact⟨0,by omega,rfl,⟨_,own0,fun j x hj=>absurd hj (by omega)⟩,(Kp.refl _).alloc _⟩
 case round =>
  clear own0 hmk
  obtain⟨k,hk,rfl,⟨ys,ho,hys⟩,kr⟩:=hrel
  have HY:=Lib.hid hys
  clear hys
  by_cases hlt:k<n
  ·have hlt':(k:Int)<n:=by omega
   obtain⟨g,off,rfl,hc⟩:=HA.out (by omega)
   obtain⟨x,hx⟩:∃ x,l[k]?=some x:=⟨l[k]'(by have:=HN.out;omega),List.getElem?_eq_getElem _⟩
   obtain⟨a0,a1,a2,a3⟩:=(hc k x hx).keep kr
   have HX:=Lib.hid hx
   clear hc hx
   obtain⟨p0,p1,p2,p3⟩:=x
   simp only at a0 a1 a2 a3
   have HO:=Lib.hid ho
   clear ho
   go_wp2_with fail
   refine(toUnit_any _ _ _ _ _).mono ?_
   rintro e w1 ⟨rfl,k1⟩
   have ho:=ownsRow_keep HO.out k1
   have hlen:ys.length=n*4:=ho.1
   obtain⟨u0,hu0⟩:∃ u,w1.cell? ⟨w.heap.size,k*4,none⟩=some u:=⟨_,(ho.cellAt (k*4) (by omega)).trans (List.getElem?_eq_getElem (by omega))⟩
   have f0:=ho.frozenAt (k*4)
   obtain⟨u1,hu1⟩:∃ u,w1.cell? ⟨w.heap.size,k*4+1,none⟩=some u:=⟨_,(ho.cellAt (k*4+1) (by omega)).trans (List.getElem?_eq_getElem (by omega))⟩
   have f1:=ho.frozenAt (k*4+1)
   obtain⟨u2,hu2⟩:∃ u,w1.cell? ⟨w.heap.size,k*4+2,none⟩=some u:=⟨_,(ho.cellAt (k*4+2) (by omega)).trans (List.getElem?_eq_getElem (by omega))⟩
   have f2:=ho.frozenAt (k*4+2)
   obtain⟨u3,hu3⟩:∃ u,w1.cell? ⟨w.heap.size,k*4+3,none⟩=some u:=⟨_,(ho.cellAt (k*4+3) (by omega)).trans (List.getElem?_eq_getElem (by omega))⟩
   have f3:=ho.frozenAt (k*4+3)
   have HLen:=Lib.hid hlen
   clear hlen
   go_wp2_with fail
   go_roundw
   case rel =>
    obtain⟨o1,g1⟩:=ho.stored (k*4) (.int .i64 p0)
    obtain⟨o2,g2⟩:=o1.stored (k*4+1) (.int .i64 p1)
    obtain⟨o3,g3⟩:=o2.stored (k*4+2) (.int .i64 p2)
    obtain⟨o4,g4⟩:=o3.stored (k*4+3) (.int .i64 p3)
    refine⟨k+1,by omega,by go_num,⟨_,o4,fun j y hj hy=>?_⟩,(((((kr.trans k1).setCell (by simp) _).setCell (by simp) _).setCell (by simp) _).setCell (by simp) _)⟩
    have hlen:=HLen.out
    by_cases e:k=j
    ·subst e
     rw [HX.out] at hy
     obtain rfl:=Option.some.inj hy
     refine⟨?_,?_,?_,?_⟩
     ·rw [List.getElem?_set,if_neg (by omega),List.getElem?_set,if_neg (by omega),List.getElem?_set,if_neg (by omega),List.getElem?_set,if_pos rfl,if_pos (by first | omega | (simp only [List.length_set];omega))]
     ·rw [List.getElem?_set,if_neg (by omega),List.getElem?_set,if_neg (by omega),List.getElem?_set,if_pos rfl,if_pos (by first | omega | (simp only [List.length_set];omega))]
     ·rw [List.getElem?_set,if_neg (by omega),List.getElem?_set,if_pos rfl,if_pos (by first | omega | (simp only [List.length_set];omega))]
     ·rw [List.getElem?_set,if_pos rfl,if_pos (by first | omega | (simp only [List.length_set];omega))]
    ·have:=HY.out j y (by omega) hy
     refine⟨?_,?_,?_,?_⟩
     ·rw [List.getElem?_set,if_neg (by omega),List.getElem?_set,if_neg (by omega),List.getElem?_set,if_neg (by omega),List.getElem?_set,if_neg (by omega)];exact this.1
     ·rw [List.getElem?_set,if_neg (by omega),List.getElem?_set,if_neg (by omega),List.getElem?_set,if_neg (by omega),List.getElem?_set,if_neg (by omega)];exact this.2.1
     ·rw [List.getElem?_set,if_neg (by omega),List.getElem?_set,if_neg (by omega),List.getElem?_set,if_neg (by omega),List.getElem?_set,if_neg (by omega)];exact this.2.2.1
     ·rw [List.getElem?_set,if_neg (by omega),List.getElem?_set,if_neg (by omega),List.getElem?_set,if_neg (by omega),List.getElem?_set,if_neg (by omega)];exact this.2.2.2
   case measure=>simp [intOf];omega
  ·obtain rfl:k=n:=by omega
   go_wp2_with fail
   go_ret
   have e:ys=cellsU l:=by
    apply List.ext_getElem?
    intro j
    have hl1:ys.length=k*4:=ho.1
    have hl2:=HN.out
    have hl3:=cellsU_length l
    by_cases hj:j<k*4
    ·have hi:j / 4<l.length:=by omega
     have hx:l[j / 4]?=some (l[j / 4]'hi):=List.getElem?_eq_getElem _
     have h1:=HY.out (j / 4) _ (by omega) hx
     have h2:=cellsU_at l (j / 4) _ hx
     have hm:j % 4=0∨j % 4=1∨j % 4=2∨j % 4=3:=by omega
     rcases hm with hm | hm | hm | hm
     ·rw [show j=j / 4*4 from by omega,h1.1,h2.1]
     ·rw [show j=j / 4*4+1 from by omega,h1.2.1,h2.2.1]
     ·rw [show j=j / 4*4+2 from by omega,h1.2.2.1,h2.2.2.1]
     ·rw [show j=j / 4*4+3 from by omega,h1.2.2.2,h2.2.2.2]
    ·rw [List.getElem?_eq_none (by omega),List.getElem?_eq_none (by omega)]
   refine⟨_,rfl,?_,kr⟩
   unfold OwnU
   rw [HN.out,← e]
   exact ho
set_option maxRecDepth 100000 in
set_option maxHeartbeats 1000000 in
theorem eqUnitS_same (va vb:Value) (l:List Uni) (w:World) (ha:RdU w va l) (hb:RdU w vb l) (hl:l.length≤1048576) :
  Calls Tryz.prog 74 #[va,vb] w fun e w'=>e=.returned (.bool true)∧Kp w w':=by
 obtain⟨A,ca,rfl,ha⟩:=ha
 obtain⟨B,cb,rfl,hb⟩:=hb
 have HA:=Lib.hid ha
 have HB:=Lib.hid hb
 clear ha hb
 generalize hn:l.length=n at *
 have HN:=Lib.hid hn
 clear hn
 go_enter Tryz.func74,Tryz.ntmps74
 go_wp2_with fail
 go_loopw [5] (fun i wr=>∃ k:Nat,k≤n∧i=.int .i64 k∧Kp w wr) (fun i _=>n - (intOf i).toNat)
 case atStart=>exact⟨0,by omega,rfl,Kp.refl _⟩
 case round =>
  obtain⟨k,hk,rfl,kr⟩:=hrel
  by_cases hlt:k<n
  ·obtain⟨ga,oa,rfl,ca'⟩:=HA.out (by omega)
   obtain⟨gb,ob,rfl,cb'⟩:=HB.out (by omega)
   obtain⟨x,hx⟩:∃ x,l[k]?=some x:=⟨l[k]'(by have:=HN.out;omega),List.getElem?_eq_getElem _⟩
   have a0:=(ca' k x hx).keep kr
   have b0:=(cb' k x hx).keep kr
   clear ca' cb' hx
   obtain⟨p0,p1,p2,p3⟩:=x
   unfold UniAt at a0 b0
   simp only at a0 b0
   have hlt':(k:Int)<n:=by omega
   have s0:=And.intro a0 b0
   obtain⟨a0,a1,a2,a3⟩:=a0
   obtain⟨b0,b1,b2,b3⟩:=b0
   go_wp2_with fail
   go_region_held3 (fun w'=>w'.cell? ⟨ga,oa+k*4,none⟩=some (.int .i64 p0)∧w'.cell? ⟨ga,oa+k*4+1,none⟩=some (.int .i64 p1)∧w'.cell? ⟨ga,oa+k*4+2,none⟩=some (.int .i64 p2)∧w'.cell? ⟨ga,oa+k*4+3,none⟩=some (.int .i64 p3)∧w'.cell? ⟨gb,ob+k*4,none⟩=some (.int .i64 p0)∧w'.cell? ⟨gb,ob+k*4+1,none⟩=some (.int .i64 p1)∧w'.cell? ⟨gb,ob+k*4+2,none⟩=some (.int .i64 p2)∧w'.cell? ⟨gb,ob+k*4+3,none⟩=some (.int .i64 p3)) (first | assumption | exact⟨a0,a1,a2,a3,b0,b1,b2,b3⟩ | go_keep)
    (first | (go_at_call 142;refine(eqUnit_same _ _ _ _ _).mono ?_;rintro e w1 ⟨rfl,k1⟩;have s1:=keep8u k1 (by assumption)))
   all_goals
    go_wp2_with fail
    go_roundw
    case rel=>exact⟨k+1,by omega,by go_num,kr.drew.trans k1⟩
    case measure=>simp [intOf];omega
  ·obtain rfl:k=n:=by omega
   go_wp2_with fail
   go_ret
   exact⟨rfl,kr⟩
theorem marks4_step (k0:Int) (xs:List Value) (t n:Nat) (hl:xs.length=n*4) (ht:t<n) :
  ((((marks k0 (t*4)++xs.drop (t*4)).set (t*4) (.int .i64 (k0+4*(t:Int)))).set (t*4+1) (.int .i64 (k0+4*(t:Int)+1))).set (t*4+2) (.int .i64 (k0+4*(t:Int)+1+1))).set (t*4+3) (.int .i64 (k0+4*(t:Int)+1+1+1))=marks k0 ((t+1)*4)++xs.drop ((t+1)*4):=by
 have e0:k0+4*(t:Int)=k0+((t*4:Nat):Int):=by omega
 have e1:k0+4*(t:Int)+1=k0+((t*4+1:Nat):Int):=by omega
 have e2:k0+4*(t:Int)+1+1=k0+((t*4+2:Nat):Int):=by omega
 have e3:k0+4*(t:Int)+1+1+1=k0+((t*4+3:Nat):Int):=by omega
 rw [e3,e2,e1,e0]
 rw [marks1_step k0 xs (t*4) (n*4) (by omega) (by omega),marks1_step k0 xs (t*4+1) (n*4) (by omega) (by omega),marks1_step k0 xs (t*4+2) (n*4) (by omega) (by omega),marks1_step k0 xs (t*4+3) (n*4) (by omega) (by omega),show t*4+3+1=(t+1)*4 from by omega]
set_option maxRecDepth 100000 in
theorem markUnitS_own (v:Value) (n base:Nat) (k0:Int) (xs:List Value) (w:World) (h0:0≤k0) (h1:k0≤1000000000000000) (hn:n≤1048576) (hown:w.ownsRow base 152 4 v n xs) :
  Calls Tryz.prog 97 #[v,.int .i64 k0] w fun e w'=>e=.returned (.int .i64 (k0+4*n))∧w'.ownsRow base 152 4 v n (marks k0 (n*4))∧w.grownBy w' v.ownBlock:=by
 rcases hown.2 with ⟨rfl,rfl⟩ | ⟨g,cap,cur,rfl,_⟩
 ·go_enter Tryz.func97,Tryz.ntmps97
  go_wp2_with fail
  go_loop [1,5] (fun k i=>k=.int .i64 k0∧i=.int .i64 0) (fun _ _=>0)
  case atStart=>exact⟨rfl,rfl⟩
  case round =>
   obtain⟨rfl,rfl⟩:=hrel
   go_wp2_with fail
   go_ret
   exact⟨ret_int (by simp),World.ownsRow_nil _ _ _ _,World.grownBy.refl w _⟩
 ·have hl:xs.length=n*4:=hown.1
  have HL:=Lib.hid hl
  clear hl
  go_enter Tryz.func97,Tryz.ntmps97
  go_wp2_with fail
  go_loopw [1,5] (fun kk i wr=>∃ t:Nat,t≤n∧i=.int .i64 t∧kk=.int .i64 (k0+4*t)∧wr.ownsRow base 152 4 (.slice (some ⟨g,0,none⟩) n cap) n (marks k0 (t*4)++xs.drop (t*4))∧w.grownBy wr (some g)) (fun _ i _=>n - (intOf i).toNat)
  case atStart=>exact⟨0,by omega,rfl,by simp,by simpa [marks] using hown,World.grownBy.refl w _⟩
  case round =>
   obtain⟨t,ht,rfl,rfl,ho,hg⟩:=hrel
   by_cases hlt:t<n
   ·have hlt':(t:Int)<n:=by omega
    have hlen:(marks k0 (t*4)++xs.drop (t*4)).length=n*4:=ho.1
    obtain⟨u0,hu0⟩:∃ u,wr.cell? ⟨g,t*4,none⟩=some u:=⟨_,(ho.cellAt (t*4) (by omega)).trans (List.getElem?_eq_getElem (by omega))⟩
    have f0:=ho.frozenAt (t*4)
    obtain⟨u1,hu1⟩:∃ u,wr.cell? ⟨g,t*4+1,none⟩=some u:=⟨_,(ho.cellAt (t*4+1) (by omega)).trans (List.getElem?_eq_getElem (by omega))⟩
    have f1:=ho.frozenAt (t*4+1)
    obtain⟨u2,hu2⟩:∃ u,wr.cell? ⟨g,t*4+2,none⟩=some u:=⟨_,(ho.cellAt (t*4+2) (by omega)).trans (List.getElem?_eq_getElem (by omega))⟩
    have f2:=ho.frozenAt (t*4+2)
    obtain⟨u3,hu3⟩:∃ u,wr.cell? ⟨g,t*4+3,none⟩=some u:=⟨_,(ho.cellAt (t*4+3) (by omega)).trans (List.getElem?_eq_getElem (by omega))⟩
    have f3:=ho.frozenAt (t*4+3)
    clear hlen
    go_wp2_with fail
    go_roundw
    case rel =>
     obtain⟨o1,g1⟩:=ho.stored (t*4) (.int .i64 (k0+4*(t:Int)))
     obtain⟨o2,g2⟩:=o1.stored (t*4+1) (.int .i64 (k0+4*(t:Int)+1))
     obtain⟨o3,g3⟩:=o2.stored (t*4+2) (.int .i64 (k0+4*(t:Int)+1+1))
     obtain⟨o4,g4⟩:=o3.stored (t*4+3) (.int .i64 (k0+4*(t:Int)+1+1+1))
     refine⟨t+1,by omega,by go_num,by go_num,?_,((((hg.trans g1).trans g2).trans g3).trans g4)⟩
     rw [← marks4_step k0 xs t n HL.out hlt]
     exact o4
    case measure=>simp [intOf];omega
   ·obtain rfl:t=n:=by omega
    go_wp2_with fail
    go_ret
    refine⟨rfl,?_,hg⟩
    have e:xs.drop (t*4)=[]:=List.drop_of_length_le (by rw [HL.out];omega)
    rw [e,List.append_nil] at ho
    exact ho
theorem cellsUnit:Tryz.prog.cellsOf 180=4:=by kernel_rfl
set_option maxRecDepth 100000 in
theorem rdU_of_trod {H:Type} {enc:TypeId × Value→H} {W:World} {v:Value} {m:Nat} {y:DataW H × List MemPlace}
  (hf:DataW.trod enc Tryz.prog W 0 (fun _=>true) true m 31 [v]=some y):∃ l,RdU W v l∧l.length≤9223372036854775807∧∀ x ∈ l,UniI x:=by
 obtain⟨A,n,c,l,rfl,hl,hm,hr⟩:=rd_structs (α:=Uni) (fun g o x=>UniAt W g o x∧UniI x) cellsUnit Tryz.underlying31 hf (fun a fu cs x hcl hat hx=>by
  obtain⟨k,hk⟩:=fields_of_trod Tryz.underlying180 (by kernel_rfl) rfl hcl hx
  obtain⟨c0,y0,q0,h0⟩:=hk 0 _ rfl
  obtain⟨c1,y1,q1,h1⟩:=hk 1 _ rfl
  obtain⟨c2,y2,q2,h2⟩:=hk 2 _ rfl
  obtain⟨c3,y3,q3,h3⟩:=hk 3 _ rfl
  obtain⟨z0,e0,_,w0⟩:=DataW.trod_int Tryz.underlying3 h0
  obtain⟨z1,e1,_,w1⟩:=DataW.trod_int Tryz.underlying3 h1
  obtain⟨z2,e2,_,w2⟩:=DataW.trod_int Tryz.underlying3 h2
  obtain⟨z3,e3,_,w3⟩:=DataW.trod_int Tryz.underlying3 h3
  simp only [List.cons.injEq,and_true] at e0 e1 e2 e3
  subst e0 e1 e2 e3
  have g0:=(hat 0 (by omega)).trans q0
  have g1:=(hat 1 (by omega)).trans q1
  have g2:=(hat 2 (by omega)).trans q2
  have g3:=(hat 3 (by omega)).trans q3
  obtain⟨b,off,spot⟩:=a
  have hspot:spot=none:=by
   have:=World.cell?_spot g0
   simpa [Addr.add] using this
  subst hspot
  rw [add_none'] at g0 g1 g2 g3
  exact⟨rfl,⟨z0,z1,z2,z3⟩,⟨g0,g1,g2,g3⟩,bounds_i64 w0,bounds_i64 w1,bounds_i64 w2,bounds_i64 w3⟩)
 unfold maxLen at hm
 refine⟨l,⟨A,c,by rw [hl],fun h0=>?_⟩,by omega,fun x hx=>?_⟩
 ·obtain⟨g,off,e,hc⟩:=hr (by omega)
  exact⟨g,off,e,fun i x hx=>(hc i x hx).1⟩
 ·obtain⟨i,hi,rfl⟩:=List.mem_iff_getElem.1 hx
  obtain⟨g,off,e,hc⟩:=hr (by omega)
  exact(hc i _ (List.getElem?_eq_getElem hi)).2
end Go.Proofs.YtacgknllagdkoaaGreatDoor
/-
 States as plain data: when a unit and a state are valid, the units in a hex and of a side, their sums. No program is looked into.
-/
namespace Go.Proofs.YtacgknllagdkoaaGreatDoor
open Go.RowKit
/-- The number j is one of a list's unit with a property. -/
def unB (f:Uni→Bool) (us:List Uni) (j:Nat):Bool:=match us[j]? with
 | some u=>f u
 | none=>false
def inHexS (i s:Int) (u:Uni):Bool:=decide (u.a=i) && decide (u.s=s)
/-- The units with a property, among the first k. -/
def unL (f:Uni→Bool) (us:List Uni) (k:Nat):List Int:=filN (unB f us) k
theorem unB_at {f:Uni→Bool} {us:List Uni} {j:Nat} {u:Uni} (h:us[j]?=some u):unB f us j=f u:=by unfold unB;rw [h]
theorem unL_yes {f:Uni→Bool} {us:List Uni} {k:Nat} {u:Uni} (h:us[k]?=some u) (hf:f u=true):unL f us (k+1)=unL f us k++[(k:Int)]:=filN_yes ((unB_at h).trans hf)
theorem unL_no {f:Uni→Bool} {us:List Uni} {k:Nat} {u:Uni} (h:us[k]?=some u) (hf:f u=false):unL f us (k+1)=unL f us k:=filN_no ((unB_at h).trans hf)
theorem unL_len (f:Uni→Bool) (us:List Uni) (k:Nat):(unL f us k).length≤k:=filN_len _ k
theorem unL_has {f:Uni→Bool} {us:List Uni} {k j:Nat} {u:Uni} (hj:j<k) (h:us[j]?=some u) (hf:f u=true):(j:Int) ∈ unL f us k :=
 (filN_mem _ _ _).2 ⟨j,hj,rfl,(unB_at h).trans hf⟩
/-- What a kind's number stands for. -/
def stN (m:List Knd) (k:Int):Int:=((m[k.toNat]?).map (·.stp)).getD 0
def uniOk (l:List Ter) (m:List Knd) (W H:Int) (lt:List Int) (u:Uni):Bool :=
 ((spB 0 1 u.s && inB u.k m.length) && spB 0 (stN m u.k) u.t) && (decide (u.a=-1) || ((decide (0<u.t) && onI W H u.a) && decide (0<costB l lt u.k.toNat u.a.toNat)))
/-- What the test of a unit says of its steps and its place. -/
def uniR (l:List Ter) (lt:List Int) (W H:Int) (K:Nat) (stp ax tx:Int):Bool:=spB 0 stp tx && (decide (ax=-1) || ((decide (0<tx) && onI W H ax) && decide (0<costB l lt K ax.toNat)))
def stkOk (us:List Uni) (st:Int) (u:Uni):Bool :=
 decide (u.a=-1) || (decide ((unL (inHexS u.a (1 - u.s)) us us.length).length=0) && decide (((unL (inHexS u.a u.s) us us.length).length:Int)≤st))
/-- A state that is valid for a board which is. -/
def staOk (r:Rul) (W H:Int) (lt:List Int) (T Z:Int) (us:List Uni):Bool :=
 (((spB 0 r.turns T && spB 0 2 Z) && decide (us.length≤12)) && us.all (uniOk r.ters r.knds W H lt)) && us.all (stkOk us r.stack)
theorem uniOk_side {l:List Ter} {m:List Knd} {W H:Int} {lt:List Int} {u:Uni} (h:uniOk l m W H lt u=true):(u.s=0∨u.s=1)∧(0≤u.k∧u.k<m.length)∧(0≤u.t∧u.t≤stN m u.k)∧(u.a=-1∨0≤u.a):=by
 simp only [uniOk,spB,inB,onI,Bool.and_eq_true,Bool.or_eq_true,decide_eq_true_iff] at h
 omega
theorem staOk_parts {r:Rul} {W H:Int} {lt:List Int} {T Z:Int} {us:List Uni} (h:staOk r W H lt T Z us=true) :
  ((0≤T∧T≤r.turns)∧(0≤Z∧Z≤2))∧us.length≤12∧(∀ u ∈ us,uniOk r.ters r.knds W H lt u=true)∧∀ u ∈ us,stkOk us r.stack u=true:=by
 simp only [staOk,spB,Bool.and_eq_true,decide_eq_true_iff,List.all_eq_true] at h
 exact⟨h.1.1.1,h.1.1.2,h.1.2,h.2⟩
/-- One number of each side, as the program counts them. -/
def cntS (us:List Uni) (i s:Int) (k:Nat):Int:=((unL (inHexS i s) us k).length:Int)
theorem cntS_bd (us:List Uni) (i s:Int) (k:Nat):0≤cntS us i s k∧cntS us i s k≤k:=by
 have:=unL_len (inHexS i s) us k
 unfold cntS
 omega
theorem cntS_step {us:List Uni} {i s:Int} {k:Nat} {u:Uni} (h:us[k]?=some u):cntS us i s (k+1)=if u.a=i∧u.s=s then cntS us i s k+1 else cntS us i s k:=by
 unfold cntS
 split
 ·rename_i hc
  rw [unL_yes h (by simp [inHexS,hc]),List.length_append]
  simp
 ·rename_i hc
  rw [unL_no h (by simpa [inHexS] using hc)]
theorem cntS_pos {us:List Uni} {j k:Nat} {u:Uni} (hj:j<k) (h:us[j]?=some u):1≤cntS us u.a u.s k:=by
 have h1:(j:Int) ∈ unL (inHexS u.a u.s) us k:=unL_has hj h (by simp [inHexS])
 have h2:0<(unL (inHexS u.a u.s) us k).length:=List.length_pos_of_mem h1
 unfold cntS
 omega
/-- The program's test of a stack: the lesser count is 0, the greater is not above the limit. -/
def stkP (st c0 c1:Int):Bool:=decide (min c0 c1=0) && decide (max c0 c1≤st)
theorem stk_eq {us:List Uni} {st:Int} {j:Nat} {u:Uni} (hu:us[j]?=some u) (hs:u.s=0∨u.s=1) :
  (decide (u.a=-1) || stkP st (cntS us u.a 0 us.length) (cntS us u.a 1 us.length))=stkOk us st u:=by
 have h1:=cntS_pos (k:=us.length) (by have:=(List.getElem?_eq_some_iff.1 hu).1;omega) hu
 have b0:=cntS_bd us u.a 0 us.length
 have b1:=cntS_bd us u.a 1 us.length
 unfold stkOk stkP
 congr 1
 have e:∀ s,((unL (inHexS u.a s) us us.length).length:Int)=cntS us u.a s us.length:=fun s=>rfl
 have e2:∀ s,decide ((unL (inHexS u.a s) us us.length).length=0)=decide (cntS us u.a s us.length=0):=fun s=>by
  rw [← e]
  congr 1
  exact propext ⟨fun h=>by omega,fun h=>by omega⟩
 rw [e,e2]
 rcases hs with h | h
 ·rw [h] at h1 ⊢
  rw [show (1:Int) - 0=1 from rfl,Bool.eq_iff_iff]
  simp only [Bool.and_eq_true,decide_eq_true_iff]
  omega
 ·rw [h] at h1 ⊢
  rw [show (1:Int) - 1=0 from rfl,Bool.eq_iff_iff]
  simp only [Bool.and_eq_true,decide_eq_true_iff]
  omega
end Go.Proofs.YtacgknllagdkoaaGreatDoor
/-
 The laws' own functions on states: the size, the copy (in memory of its own), the comparison of two that read as the same list, the marks and the look at them; an argument that is a state reads as its list.
-/
namespace Go.Proofs.YtacgknllagdkoaaGreatDoor
open Go.ChangeShapes Go.WideShapes Go.ChangeAt Go.RowKit Go.Joins Go.Deep
abbrev sv (T Z:Int) (u:Value):Value:=.agg #[.int .i64 T,.int .i64 Z,u]
/-- What an argument's state is: a slice that reads as a list, within Go's own bounds; and the same, small. -/
structure StaIn (w:World) (u:Value) (us:List Uni):Prop where
 rd:RdU w u us
 b:us.length≤9223372036854775807
 i:∀ x ∈ us,UniI x
structure StaAt (w:World) (u:Value) (us:List Uni):Prop where
 rd:RdU w u us
 b:us.length≤1048576
 i:∀ x ∈ us,UniI x
theorem StaIn.keep {w w':World} {u:Value} {us:List Uni} (h:StaIn w u us) (k:Kp w w'):StaIn w' u us:=⟨h.rd.keep k,h.b,h.i⟩
theorem StaAt.keep {w w':World} {u:Value} {us:List Uni} (h:StaAt w u us) (k:Kp w w'):StaAt w' u us:=⟨h.rd.keep k,h.b,h.i⟩
theorem StaIn.at {w:World} {u:Value} {us:List Uni} (h:StaIn w u us) (s:us.length≤1048576):StaAt w u us:=⟨h.rd,s,h.i⟩
theorem OwnU.sta {w w0:World} {base:Nat} {v u:Value} {l:List Uni} (h:OwnU w base v l) (s:StaAt w0 u l):StaAt w v l:=⟨h.rd,s.b,s.i⟩
set_option maxRecDepth 100000 in
theorem szState_any (T Z:Int) (u:Value) (us:List Uni) (left:Int) (w:World) (h:StaIn w u us) (h0:0≤left) (h1:left≤1048576) :
  Calls Tryz.prog 15 #[sv T Z u,.int .i64 left] w (SzPost (us.length≤1048576) w):=by
 obtain⟨A,cc,rfl,_⟩:=h.rd
 have hb:=h.b
 generalize us.length=n at hb ⊢
 clear h
 by_cases a1:(n:Int)≤left
 ·have a2:¬ (left - n)<0:=by omega
  go_enter Tryz.func15,Tryz.ntmps15
  go_wp2_with fail
  refine(szUnitS_yes _ _ _ _ _ a1 h0 h1).mono ?_
  rintro e1 w1 ⟨rfl,rfl⟩
  go_wp2_with fail
  go_ret
  exact⟨_,rfl,by omega,by omega,fun _=>by omega,(Kp.refl w).alloc _⟩
 ·go_enter Tryz.func15,Tryz.ntmps15
  go_wp2_with fail
  refine(szUnitS_no _ _ _ _ _ (by omega) h0 h1 hb).mono ?_
  rintro e1 w1 ⟨rfl,rfl⟩
  go_wp2_with fail
  go_ret
  exact⟨_,rfl,by omega,by omega,fun h=>absurd h (by omega),(Kp.refl w).alloc _⟩
abbrev LivS (w:World) (b:Nat) (v0 v1 v2:Value):Prop :=
 (w.cell? ⟨b,0,none⟩=some v0∧w.frozen? ⟨b,0,none⟩=false)∧(w.cell? ⟨b,1,none⟩=some v1∧w.frozen? ⟨b,1,none⟩=false)∧(w.cell? ⟨b,2,none⟩=some v2∧w.frozen? ⟨b,2,none⟩=false)
theorem livS_keep {w w':World} {b:Nat} {v0 v1 v2:Value} (k:Kp w w') (h:LivS w b v0 v1 v2):LivS w' b v0 v1 v2:=⟨k.liv h.1,k.liv h.2.1,k.liv h.2.2⟩
set_option maxRecDepth 100000 in
set_option maxHeartbeats 2000000 in
theorem toState_any (T Z:Int) (u:Value) (us:List Uni) (n:Nat) (w:World) (h:StaAt w u us) (hn:us.length=n) :
  Calls Tryz.prog 19 #[sv T Z u] w fun e w'=>∃ g,e=.returned (sv T Z (.slice (some ⟨g,0,none⟩) n n))∧OwnU w' w.heap.size (.slice (some ⟨g,0,none⟩) n n) us∧Kp w w':=by
 have HL:=Lib.hid h
 have hb:=h.b
 obtain⟨A,cc,rfl,_⟩:=h.rd
 have C:Hid (∀ w,RdU w (.slice A us.length cc) us→Calls Tryz.prog 67 #[.slice A us.length cc] w fun e w'=>∃ g,e=.returned (.slice (some ⟨g,0,none⟩) n n)∧OwnU w' w.heap.size (.slice (some ⟨g,0,none⟩) n n) us∧Kp w w'):=Lib.hid fun w h=>by
  have:=toUnitS_any _ us w h hb
  rw [hn] at this
  rw [hn]
  exact this
 rw [hn] at HL C ⊢
 clear h hn
 go_enter Tryz.func19,Tryz.ntmps19
 go_wp2_with fail
 have k0:Kp w (((w.alloc (.cells #[.int .i64 T,.int .i64 Z,.slice A n cc] 33)).alloc (.cells #[.int .i64 0,.int .i64 0,.slice none 0 0] 51)).alloc (.cells #[.int .i64 T,.int .i64 Z,.slice none 0 0] 51)):=(((Kp.refl w).alloc _).alloc _).alloc _
 refine(C.out _ (HL.out.keep k0).rd).mono ?_
 rintro e1 w1 ⟨g1,rfl,o1,k1⟩
 have L1:LivS w1 (w.heap.size+1) (.int .i64 0) (.int .i64 0) (.slice none 0 0):=livS_keep k1 ⟨by simp [go_sem],by simp [go_sem],by simp [go_sem]⟩
 have M1:LivS w1 (w.heap.size+1+1) (.int .i64 T) (.int .i64 Z) (.slice none 0 0):=livS_keep k1 ⟨by simp [go_sem],by simp [go_sem],by simp [go_sem]⟩
 have K1:Kp w w1:=k0.trans k1
 have O1:=Lib.hid (o1.base (b:=w.heap.size+3) (by simp <;> omega))
 clear k0 k1 o1
 go_wp2_with fail
 refine bodyPost_ret (v:=sv T Z (.slice (some ⟨g1,0,none⟩) n n)) (by simp [results,Tryz.results19,go_sem, *]) rfl ⟨_,rfl,?_,?_⟩
 ·have n1:=O1.out.not (g:=w.heap.size+1) (by omega)
  have n2:=O1.out.not (g:=w.heap.size+1+1) (by omega)
  exact((((O1.out.far n2 _).far n1 _).far n1 _).far n1 _).base (by omega)
 ·exact(((K1.setCell (by simp <;> omega) _).setCell (by simp <;> omega) _).setCell (by simp <;> omega) _).setCell (by simp <;> omega) _
set_option maxRecDepth 100000 in
theorem eqState_same (T Z:Int) (u u':Value) (us:List Uni) (w:World) (h:StaAt w u us) (h':StaAt w u' us) :
  Calls Tryz.prog 23 #[sv T Z u,sv T Z u'] w fun e w'=>e=.returned (.bool true)∧Kp w w':=by
 have KA:Kp w ((w.alloc (.cells #[.int .i64 T,.int .i64 Z,u] 51)).alloc (.cells #[.int .i64 T,.int .i64 Z,u'] 51)):=((Kp.refl w).alloc _).alloc _
 have H1:=Lib.hid (h.keep KA)
 have H2:=Lib.hid (h'.keep KA)
 have e1:(T != T)=false:=by simp
 have e2:(Z != Z)=false:=by simp
 clear h h'
 go_enter Tryz.func23,Tryz.ntmps23
 go_wp2_with fail
 refine(eqUnitS_same _ _ us _ H1.out.rd H2.out.rd H1.out.b).mono ?_
 rintro x1 w1 ⟨rfl,k1⟩
 go_wp2_with fail
 go_ret
 exact⟨rfl,KA.trans k1⟩
set_option maxRecDepth 100000 in
theorem markState_own (T Z:Int) (v:Value) (n base hi:Nat) (k0:Int) (xs:List Value) (w:World) (h0:0≤k0) (h1:k0≤100000000000000) (hn:n≤1048576) (hown:w.ownsRow base 152 4 v n xs) (hlo:base≤w.heap.size) (hhi:∀ g,v.ownBlock=some g→g<hi) :
  Calls Tryz.prog 39 #[sv T Z v,.int .i64 k0] w fun e w'=>e=.returned (.int .i64 (k0+4*n))∧w'.ownsRow base 152 4 v n (marks k0 (n*4))∧Mk base hi w w':=by
 have KA:Kp w (w.alloc (.cells #[.int .i64 T,.int .i64 Z,v] 51)):=(Kp.refl w).alloc _
 have HO:=Lib.hid (ownsRow_keep hown KA)
 have M0:Hid (Mk base hi w (w.alloc (.cells #[.int .i64 T,.int .i64 Z,v] 51))):=Lib.hid (Mk.of_kp KA hlo)
 have HI:Hid (∀ k,v.ownBlock=some k→base≤k∧k<hi):=Lib.hid fun k e=>⟨(World.ownsRow.lt hown k e).1,hhi k e⟩
 have hz:base≤(w.alloc (.cells #[.int .i64 T,.int .i64 Z,v] 51)).heap.size:=by simp;omega
 clear hown hhi
 go_enter Tryz.func39,Tryz.ntmps39
 go_wp2_with fail
 refine(markUnitS_own v n base k0 xs _ h0 (by omega) hn HO.out).mono ?_
 rintro e1 w1 ⟨rfl,o1,g1⟩
 have O1:=Lib.hid o1
 have M1:=Lib.hid (M0.out.grown g1 hz HI.out)
 clear o1 g1
 go_wp2_with fail
 go_ret
 exact⟨rfl,O1.out,M1.out⟩
theorem cellsSta:Tryz.prog.cellsOf 33=3:=by kernel_rfl
theorem threeS {α:Type} {l:List α} (h:l.length=3) {a b c:α} (h0:l[0]?=some a) (h1:l[1]?=some b) (h2:l[2]?=some c):l=[a,b,c]:=by
 match l,h with
 | [x0,x1,x2],_=>simp_all
set_option maxRecDepth 100000 in
/-- An argument of type State: two numbers and a list. -/
theorem open_state {H:Type} {enc:TypeId × Value→H} {W:World} {base:Nat} {v:Value} {d:DataW H} {p:List MemPlace}
  (hv:Value.okWide Tryz.prog W .any base 33 v) (h:DataW.Trod enc Tryz.prog W 0 (fun _=>true) true 33 v d p) :
  ∃ (T Z:Int) (u:Value) (us:List Uni),v=sv T Z u∧StaIn W u us∧isI64 T∧isI64 Z:=by
 obtain⟨cs,n,rfl,hl,hf⟩:=open_fields Tryz.underlying33 (by kernel_rfl) cellsSta rfl hv h
 obtain⟨c0,y0,q0,h0⟩:=hf 0 _ rfl
 obtain⟨c1,y1,q1,h1⟩:=hf 1 _ rfl
 obtain⟨c2,y2,q2,h2⟩:=hf 2 _ rfl
 obtain rfl:=threeS hl q0 q1 q2
 obtain⟨T,e0,rfl,wT⟩:=DataW.trod_int Tryz.underlying3 h0
 obtain⟨Z,e1,rfl,wZ⟩:=DataW.trod_int Tryz.underlying3 h1
 obtain⟨us,s1,s2,s3⟩:=rdU_of_trod h2
 simp only [List.cons.injEq,and_true] at e0 e1
 subst e0 e1
 exact⟨T,Z,c2,us,rfl,⟨s1,s2,s3⟩,bounds_i64 wT,bounds_i64 wZ⟩
end Go.Proofs.YtacgknllagdkoaaGreatDoor
