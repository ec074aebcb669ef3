/-
 Texts of this seat in one module: BrdX, TabS, RowC, DirTo, PutI.
-/
import Derived.Test.YtacgknllagdkoaaGreatDoorQb
import Derived.Test.YtacgknllagdkoaaGreatDoorQe
import Derived.Test.YtacgknllagdkoaaGreatDoorQf
import Derived.Test.YtacgknllagdkoaaGreatDoorQj
import Derived.Test.YtacgknllagdkoaaGreatDoorQk
/-
 The laws' marking of copied kinds, rules, maps and boards: only the copy's own blocks are written, and the number handed back is not less.
-/
namespace Go.Proofs.YtacgknllagdkoaaGreatDoor
open Go.RowKit
set_option maxRecDepth 100000 in
set_option maxHeartbeats 4000000 in
theorem markKindS_w (g n:Nat) (ys:List Value) (k0:Int) (lo hi:Nat) (w:World) (h:w.ownsRow g 176 6 (.slice (some ⟨g,0,none⟩) n n) n ys) (hn:n≤1048576) (hlo:lo≤g) (hg:g<hi) (p0:0≤k0) (p1:k0≤200000000000000) :
  Calls Tryz.prog 159 #[.slice (some ⟨g,0,none⟩) n n,.int .i64 k0] w fun e w'=>∃ k',e=.returned (.int .i64 k')∧k0≤k'∧k'≤k0+6*(n:Int)∧Mk lo hi w w':=by
 have R0:=Lib.hid h
 have hgw:g<w.heap.size:=(World.ownsRow.lt h g rfl).2
 clear h
 go_enter Tryz.func159,Tryz.ntmps159
 go_wp2_with fail
 go_loopw [1,5] (fun kk i wr=>∃ (q:Nat) (k:Int) (ys:List Value),q≤n∧i=.int .i64 q∧kk=.int .i64 k∧k0≤k∧k≤k0+6*(q:Int)∧Hid (wr.ownsRow g 176 6 (.slice (some ⟨g,0,none⟩) n n) n ys)∧Mk lo hi w wr∧w.heap.size≤wr.heap.size) (fun _ i _=>n - (intOf i).toNat)
 case atStart=>exact⟨0,_,ys,by omega,rfl,rfl,by omega,by omega,R0,Mk.refl _ _ _,Nat.le_refl _⟩
 case round =>
  clear R0
  obtain⟨q,k,zs,hq,rfl,rfl,hk0,hk1,HR,mk,hz⟩:=hrel
  by_cases hlt:q<n
  ·have hlt':(q:Int)<n:=by omega
   obtain⟨kn,rfl⟩:∃ kn:Nat,k=kn:=⟨k.toNat,by omega⟩
   obtain⟨⟨u0,b0⟩,f0⟩:=liveN HR.out (j:=q*6) (by omega)
   have hgr:g<wr.heap.size:=by omega
   go_wp2_with fail
   refine(markText_any kn _ (by omega)).mono ?_
   rintro e1 w1 ⟨s,rfl,k1⟩
   have R1:=Lib.hid (ownsRow_keep HR.out k1)
   obtain⟨⟨t0,c0⟩,d0⟩:=liveN R1.out (j:=q*6) (by omega)
   obtain⟨⟨t1,c1⟩,d1⟩:=liveN R1.out (j:=q*6+1) (by omega)
   obtain⟨⟨t2,c2⟩,d2⟩:=liveN R1.out (j:=q*6+2) (by omega)
   obtain⟨⟨t3,c3⟩,d3⟩:=liveN R1.out (j:=q*6+3) (by omega)
   obtain⟨⟨t4,c4⟩,d4⟩:=liveN R1.out (j:=q*6+4) (by omega)
   obtain⟨⟨t5,c5⟩,d5⟩:=liveN R1.out (j:=q*6+5) (by omega)
   have m1:Mk lo hi w w1:=mk.trans (Mk.of_kp k1 (by omega))
   have hz1:wr.heap.size≤w1.heap.size:=k1.size
   clear b0 f0 k1
   go_wp2_with fail
   go_roundw
   case rel =>
    exact⟨q+1,_,_,by omega,by go_num,rfl,by omega,by omega,Lib.hid ((((((R1.out.stored (q*6) _).1.stored (q*6+1) _).1.stored (q*6+2) _).1.stored (q*6+3) _).1.stored (q*6+4) _).1.stored (q*6+5) _).1,(((((m1.set hlo hg _).set hlo hg _).set hlo hg _).set hlo hg _).set hlo hg _).set hlo hg _,by simp;omega⟩
   case measure=>simp [intOf];omega
  ·obtain rfl:q=n:=by omega
   go_wp2_with fail
   go_ret
   exact⟨_,rfl,hk0,hk1,mk⟩
theorem Mk.row {lo hi base g n sz:Nat} {w w':World} {e:TypeId} {cap:Nat} {xs:List Value} (h:Mk lo hi w w') (o:w.ownsRow base e sz (.slice (some ⟨g,0,none⟩) n cap) n xs) (hb:hi≤g):w'.ownsRow base e sz (.slice (some ⟨g,0,none⟩) n cap) n xs :=
 h.own o (fun b e=>by
  have:g=b:=by simpa [Value.ownBlock] using e
  omega)
theorem Mk.cell_hi {lo hi:Nat} {w w':World} (h:Mk lo hi w w') {b o:Nat} {v:Value} (hb:hi≤b) (hc:w.cell? ⟨b,o,none⟩=some v):w'.cell? ⟨b,o,none⟩=some v :=
 (World.cell?_of_block (w:=w) (h.2 b hb (cell_lt hc))).trans hc
theorem Mk.wide {lo hi hi':Nat} {w w':World} (h:Mk lo hi w w') (hh:hi≤hi'):Mk lo hi' w w':=⟨h.1,fun b hb hs=>h.2 b (by omega) hs⟩
theorem OwnR.hi {w:World} {base g1 g2 nt nk:Nat} {l:List Ter} {m:List Knd} {cs:List (Option Addr × Nat)} {ys zs:List Value} (h:OwnR w base g1 g2 nt nk l m cs ys zs):∀ (j:Nat) (c:Option Addr × Nat) (x b:Nat),cs[j]?=some c→(Value.slice c.1 x c.2).ownBlock=some b→b<g2 :=
 fun j c x b hc hb=>(h.mid j c x b hc hb).2
set_option maxRecDepth 100000 in
set_option maxHeartbeats 4000000 in
theorem markRules_w (base g1 g2 nt nk:Nat) (l:List Ter) (m:List Knd) (cs:List (Option Addr × Nat)) (ys zs:List Value) (a b c d e k0:Int) (w:World) (h:OwnR w base g1 g2 nt nk l m cs ys zs) (hb1:nt≤1048576) (hb2:nk≤1048576) (hb:∀ x ∈ l,x.cost.length≤1048576) (p0:0≤k0) (p1:k0≤100000000000000) :
  Calls Tryz.prog 95 #[rv (.slice (some ⟨g1,0,none⟩) nt nt) (.slice (some ⟨g2,0,none⟩) nk nk) a b c d e,.int .i64 k0] w fun e' w'=>∃ k',e'=.returned (.int .i64 k')∧k0≤k'∧k'≤k0+2000000000000∧Mk base (g2+1) w w':=by
 have KA:Kp w (w.alloc (.cells #[.slice (some ⟨g1,0,none⟩) nt nt,.slice (some ⟨g2,0,none⟩) nk nk,.int .i64 a,.int .i64 b,.int .i64 c,.int .i64 d,.int .i64 e] 44)):=(Kp.refl w).alloc _
 have q1:(w.alloc (.cells #[.slice (some ⟨g1,0,none⟩) nt nt,.slice (some ⟨g2,0,none⟩) nk nk,.int .i64 a,.int .i64 b,.int .i64 c,.int .i64 d,.int .i64 e] 44)).cell? ⟨w.heap.size,1,none⟩=some (.slice (some ⟨g2,0,none⟩) nk nk):=by simp [go_sem]
 have HO:=Lib.hid (h.keep KA)
 have HB:=Lib.hid hb
 have x1:=h.b
 have x2:=h.g
 have x3:=h.z
 clear h hb
 go_enter Tryz.func95,Tryz.ntmps95
 go_wp2_with fail
 refine(markTerrainS_w g1 nt l cs ys k0 base g2 _ HO.out.t HO.out.lt HO.out.lc hb1 HB.out x1 x2 HO.out.hi p0 p1).mono ?_
 rintro e1 w1 ⟨k1,rfl,y1,y2,m1⟩
 have q2:=m1.cell_hi (by omega) q1
 have O1:=Lib.hid (m1.row HO.out.k.row (Nat.le_refl _))
 have M1:Mk base (g2+1) w w1:=(Mk.of_kp KA (by omega)).trans (m1.wide (by omega))
 clear q1 m1
 go_wp2_with fail
 refine(markKindS_w g2 nk zs _ base (g2+1) _ O1.out hb2 (by omega) (by omega) (by omega) (by omega)).mono ?_
 rintro e2 w2 ⟨k2,rfl,z1,z2,m2⟩
 go_wp2_with fail
 go_ret
 exact⟨_,rfl,by omega,by omega,M1.trans m2⟩
set_option maxRecDepth 100000 in
set_option maxHeartbeats 4000000 in
theorem markMap_w (W H:Int) (t r d:Value) (lt lr ld:List Int) (nt nr nd base hi:Nat) (k0:Int) (w:World) (ho:Own3 w base t r d lt lr ld) (h1:lt.length=nt) (h2:lr.length=nr) (h3:ld.length=nd) (b1:nt≤1048576) (b2:nr≤1048576) (b3:nd≤1048576) (hs:base≤w.heap.size)
  (hi1:∀ g,t.ownBlock=some g→g<hi) (hi2:∀ g,r.ownBlock=some g→g<hi) (hi3:∀ g,d.ownBlock=some g→g<hi) (p0:0≤k0) (p1:k0≤500000000000000) :
  Calls Tryz.prog 96 #[mp W H t r d,.int .i64 k0] w fun e w'=>e=.returned (.int .i64 (k0+nt+nr+nd))∧Mk base hi w w':=by
 have o1:w.ownsRow base 3 1 t nt (cellsI lt):=by rw [← h1];exact ho.ot
 have o2:w.ownsRow base 3 1 r nr (cellsI lr):=by rw [← h2];exact ho.or
 have o3:w.ownsRow base 3 1 d nd (cellsI ld):=by rw [← h3];exact ho.od
 have n1:=Lib.hid (ho.ot.block' w.heap.size (Nat.le_refl _))
 have n2:=Lib.hid (ho.or.block' w.heap.size (Nat.le_refl _))
 have AP:=Lib.hid (And.intro ho.tr (And.intro ho.td ho.rd))
 have s0:=new5 w (.int .i64 W) (.int .i64 H) t r d 45
 have k0':=s0.2.2.2.2.2
 have O1:=Lib.hid (ownsRow_keep o1 k0')
 have O2:=Lib.hid (ownsRow_keep o2 k0')
 have O3:=Lib.hid (ownsRow_keep o3 k0')
 have I1:Hid (∀ g,t.ownBlock=some g→base≤g∧g<hi):=Lib.hid fun g e=>⟨(World.ownsRow.lt o1 g e).1,hi1 g e⟩
 have I2:Hid (∀ g,r.ownBlock=some g→base≤g∧g<hi):=Lib.hid fun g e=>⟨(World.ownsRow.lt o2 g e).1,hi2 g e⟩
 have I3:Hid (∀ g,d.ownBlock=some g→base≤g∧g<hi):=Lib.hid fun g e=>⟨(World.ownsRow.lt o3 g e).1,hi3 g e⟩
 have m0:Mk base hi w _:=Mk.of_kp k0' hs
 have hz0:w.heap.size≤_:=k0'.size
 clear ho h1 h2 h3 o1 o2 o3 k0' hi1 hi2 hi3
 go_enter Tryz.func96,Tryz.ntmps96
 go_wp2_with fail
 refine(markIntS_own _ _ base _ _ _ (by omega) (by omega) b1 O1.out).mono ?_
 rintro e1 wa ⟨rfl,oa,ga⟩
 have c3:=ga.cell s0.2.2.2.1 (fun e=>n1.out e.symm)
 have c4:=ga.cell s0.2.2.2.2.1 (fun e=>n1.out e.symm)
 have P2:=Lib.hid (World.ownsRow.kept O2.out ga (apart_ne AP.out.1))
 have P3:=Lib.hid (World.ownsRow.kept O3.out ga (apart_ne AP.out.2.1))
 have ma:=m0.grown ga (by omega) I1.out
 have za:=ga.size
 clear oa ga s0 O1 O2 O3 m0
 go_wp2_with fail
 refine(markIntS_own _ _ base _ _ _ (by omega) (by omega) b2 P2.out).mono ?_
 rintro e2 wb ⟨rfl,ob,gb⟩
 have d4:=gb.cell c4 (fun e=>n2.out e.symm)
 have Q3:=Lib.hid (World.ownsRow.kept P3.out gb (apart_ne AP.out.2.2))
 have mb:=ma.grown gb (by omega) I2.out
 have zb:=gb.size
 clear ob gb c3 c4 P2 P3 ma
 go_wp2_with fail
 refine(markIntS_own _ _ base _ _ _ (by omega) (by omega) b3 Q3.out).mono ?_
 rintro e3 wc ⟨rfl,oc,gc⟩
 have mc:=mb.grown gc (by omega) I3.out
 clear oc gc d4 Q3 mb
 go_wp2_with fail
 go_ret
 exact⟨rfl,mc⟩
theorem Own3.marked {w w':World} {lo hi base:Nat} {t r d:Value} {lt lr ld:List Int} (h:Own3 w base t r d lt lr ld) (m:Mk lo hi w w') (hb:hi≤base):Own3 w' base t r d lt lr ld :=
 ⟨m.own h.ot (fun g e=>Nat.le_trans hb (World.ownsRow.lt h.ot g e).1),m.own h.or (fun g e=>Nat.le_trans hb (World.ownsRow.lt h.or g e).1),m.own h.od (fun g e=>Nat.le_trans hb (World.ownsRow.lt h.od g e).1),h.tr,h.td,h.rd⟩
set_option maxRecDepth 100000 in
set_option maxHeartbeats 4000000 in
theorem markBoard_u (base g1 g2 nt nk:Nat) (l:List Ter) (m:List Knd) (cs:List (Option Addr × Nat)) (ys zs:List Value) (a b c d e W H k0:Int) (x r y:Value) (lt lr ld:List Int) (w:World) (h:OwnBrd w base g1 g2 nt nk l m cs ys zs x r y lt lr ld) (hb1:nt≤1048576) (hb2:nk≤1048576) (hb:∀ x ∈ l,x.cost.length≤1048576) (hm:mapSm lt lr ld) (hbs:base≤w.heap.size) (hi:Nat) (_hh:hi≤w.heap.size) (hg:g2<hi) (i1:∀ g,x.ownBlock=some g→g<hi) (i2:∀ g,r.ownBlock=some g→g<hi) (i3:∀ g,y.ownBlock=some g→g<hi) (p0:0≤k0) (p1:k0≤100000000000000) :
  Calls Tryz.prog 38 #[bv (.slice (some ⟨g1,0,none⟩) nt nt) (.slice (some ⟨g2,0,none⟩) nk nk) a b c d e W H x r y,.int .i64 k0] w fun e' w'=>∃ k',e'=.returned (.int .i64 k')∧k0≤k'∧k'≤k0+3000000000000∧Mk base hi w w':=by
 have KA:Kp w (w.alloc (.cells #[.slice (some ⟨g1,0,none⟩) nt nt,.slice (some ⟨g2,0,none⟩) nk nk,.int .i64 a,.int .i64 b,.int .i64 c,.int .i64 d,.int .i64 e,.int .i64 W,.int .i64 H,x,r,y] 47)):=(Kp.refl w).alloc _
 have s0:ce12 (w.alloc (.cells #[.slice (some ⟨g1,0,none⟩) nt nt,.slice (some ⟨g2,0,none⟩) nk nk,.int .i64 a,.int .i64 b,.int .i64 c,.int .i64 d,.int .i64 e,.int .i64 W,.int .i64 H,x,r,y] 47)) (w.heap.size) (.slice (some ⟨g1,0,none⟩) nt nt) (.slice (some ⟨g2,0,none⟩) nk nk) (.int .i64 a) (.int .i64 b) (.int .i64 c) (.int .i64 d) (.int .i64 e) (.int .i64 W) (.int .i64 H) (x) (r) (y):=⟨by simp [go_sem],by simp [go_sem],by simp [go_sem],by simp [go_sem],by simp [go_sem],by simp [go_sem],by simp [go_sem],by simp [go_sem],by simp [go_sem],by simp [go_sem],by simp [go_sem],by simp [go_sem]⟩
 have HO:=Lib.hid (h.keep KA)
 have HB:=Lib.hid hb
 have HM:=Lib.hid hm
 have x1:=h.R.b
 have x2:=h.R.g
 have x3:=h.R.z
 have I1:=Lib.hid i1
 have I2:=Lib.hid i2
 have I3:=Lib.hid i3
 have hzA:w.heap.size≤_:=KA.size
 clear h hb hm i1 i2 i3
 go_enter Tryz.func38,Tryz.ntmps38
 go_wp2_with fail
 refine(markRules_w base g1 g2 nt nk l m cs ys zs a b c d e k0 _ HO.out.R hb1 hb2 HB.out p0 p1).mono ?_
 rintro e1 w1 ⟨k1,rfl,y1,y2,m1⟩
 have s1:ce12 w1 (w.heap.size) (.slice (some ⟨g1,0,none⟩) nt nt) (.slice (some ⟨g2,0,none⟩) nk nk) (.int .i64 a) (.int .i64 b) (.int .i64 c) (.int .i64 d) (.int .i64 e) (.int .i64 W) (.int .i64 H) (x) (r) (y):=⟨m1.cell_hi (by omega) s0.1,m1.cell_hi (by omega) s0.2.1,m1.cell_hi (by omega) s0.2.2.1,m1.cell_hi (by omega) s0.2.2.2.1,m1.cell_hi (by omega) s0.2.2.2.2.1,m1.cell_hi (by omega) s0.2.2.2.2.2.1,m1.cell_hi (by omega) s0.2.2.2.2.2.2.1,m1.cell_hi (by omega) s0.2.2.2.2.2.2.2.1,m1.cell_hi (by omega) s0.2.2.2.2.2.2.2.2.1,m1.cell_hi (by omega) s0.2.2.2.2.2.2.2.2.2.1,m1.cell_hi (by omega) s0.2.2.2.2.2.2.2.2.2.2.1,m1.cell_hi (by omega) s0.2.2.2.2.2.2.2.2.2.2.2⟩
 have O1:=Lib.hid (HO.out.M.marked m1 (Nat.le_refl _))
 have M1:Mk base hi w w1:=(Mk.of_kp KA hbs).trans (m1.wide (by omega))
 have hz1:=m1.1.size
 clear s0 m1
 go_wp2_with fail
 refine(markMap_w W H x r y lt lr ld _ _ _ (g2+1) hi k1 _ O1.out rfl rfl rfl HM.out.1 HM.out.2.1 HM.out.2.2 (by omega) I1.out I2.out I3.out (by omega) (by omega)).mono ?_
 rintro e2 w2 ⟨rfl,m2⟩
 go_wp2_with fail
 go_ret
 exact⟨_,rfl,by omega,by have h1:=HM.out.1;have h2:=HM.out.2.1;have h3:=HM.out.2.2;omega,M1.trans ⟨Below.mono m2.1 (by omega),m2.2⟩⟩
end Go.Proofs.YtacgknllagdkoaaGreatDoor
/-
 What the rows' lists say of the ranges and of the table of directions, cell by cell; a world for the witness in which they lie.
-/
namespace Go.Proofs.YtacgknllagdkoaaGreatDoor
open Go.ChangeShapes Go.WideShapes Go.ChangeAt Go.RowKit Go.Joins
theorem terrainsG:Tryz.prog.globalNamed "loop.example/g00886/impl.terrainsSpan"=some 10:=by kernel_rfl
theorem terrainsTy:(Tryz.prog.globals[10]?).map (·.type)=some 105:=by kernel_rfl
theorem costG:Tryz.prog.globalNamed "loop.example/g00886/impl.costSpan"=some 17:=by kernel_rfl
theorem costTy:(Tryz.prog.globals[17]?).map (·.type)=some 105:=by kernel_rfl
theorem shiftG:Tryz.prog.globalNamed "loop.example/g00886/impl.shiftSpan"=some 18:=by kernel_rfl
theorem shiftTy:(Tryz.prog.globals[18]?).map (·.type)=some 105:=by kernel_rfl
theorem heightG:Tryz.prog.globalNamed "loop.example/g00886/impl.heightSpan"=some 19:=by kernel_rfl
theorem heightTy:(Tryz.prog.globals[19]?).map (·.type)=some 105:=by kernel_rfl
theorem kindsG:Tryz.prog.globalNamed "loop.example/g00886/impl.kindsSpan"=some 11:=by kernel_rfl
theorem kindsTy:(Tryz.prog.globals[11]?).map (·.type)=some 105:=by kernel_rfl
theorem strengthG:Tryz.prog.globalNamed "loop.example/g00886/impl.strengthSpan"=some 20:=by kernel_rfl
theorem strengthTy:(Tryz.prog.globals[20]?).map (·.type)=some 105:=by kernel_rfl
theorem movesG:Tryz.prog.globalNamed "loop.example/g00886/impl.movesSpan"=some 21:=by kernel_rfl
theorem movesTy:(Tryz.prog.globals[21]?).map (·.type)=some 105:=by kernel_rfl
theorem stepsG:Tryz.prog.globalNamed "loop.example/g00886/impl.stepsSpan"=some 22:=by kernel_rfl
theorem stepsTy:(Tryz.prog.globals[22]?).map (·.type)=some 105:=by kernel_rfl
theorem viewG:Tryz.prog.globalNamed "loop.example/g00886/impl.viewSpan"=some 23:=by kernel_rfl
theorem viewTy:(Tryz.prog.globals[23]?).map (·.type)=some 105:=by kernel_rfl
theorem stackG:Tryz.prog.globalNamed "loop.example/g00886/impl.stackSpan"=some 12:=by kernel_rfl
theorem stackTy:(Tryz.prog.globals[12]?).map (·.type)=some 105:=by kernel_rfl
theorem riverG:Tryz.prog.globalNamed "loop.example/g00886/impl.riverSpan"=some 13:=by kernel_rfl
theorem riverTy:(Tryz.prog.globals[13]?).map (·.type)=some 105:=by kernel_rfl
theorem roadG:Tryz.prog.globalNamed "loop.example/g00886/impl.roadSpan"=some 14:=by kernel_rfl
theorem roadTy:(Tryz.prog.globals[14]?).map (·.type)=some 105:=by kernel_rfl
theorem supplyG:Tryz.prog.globalNamed "loop.example/g00886/impl.supplySpan"=some 15:=by kernel_rfl
theorem supplyTy:(Tryz.prog.globals[15]?).map (·.type)=some 105:=by kernel_rfl
theorem turnsG:Tryz.prog.globalNamed "loop.example/g00886/impl.turnsSpan"=some 16:=by kernel_rfl
theorem turnsTy:(Tryz.prog.globals[16]?).map (·.type)=some 105:=by kernel_rfl
noncomputable def laidWorldS (os:Os):World :=
 setVar (setVar (setVar (setVar (setVar (setVar (setVar (setVar (setVar (setVar (setVar (setVar (setVar (setVar (laidWorld os) 10 #[.int .i64 1,.int .i64 6]) 17 #[.int .i64 0,.int .i64 9]) 18 #[.int .i64 (-3),.int .i64 3]) 19 #[.int .i64 0,.int .i64 3]) 11 #[.int .i64 1,.int .i64 4]) 20 #[.int .i64 1,.int .i64 9]) 21 #[.int .i64 0,.int .i64 9]) 22 #[.int .i64 1,.int .i64 4]) 23 #[.int .i64 0,.int .i64 4]) 12 #[.int .i64 1,.int .i64 4]) 13 #[.int .i64 0,.int .i64 9]) 14 #[.int .i64 1,.int .i64 9]) 15 #[.int .i64 0,.int .i64 20]) 16 #[.int .i64 1,.int .i64 30]
end Go.Proofs.YtacgknllagdkoaaGreatDoor
/-
 Small facts on rows of cells that a call owns, and on lists to which one element is added.
-/
namespace Go.Proofs.YtacgknllagdkoaaGreatDoor
open Go.RowKit
theorem ownsRow_base {w:World} {base b:Nat} {e:TypeId} {size:Nat} {v:Value} {n:Nat} {xs:List Value} (h:w.ownsRow base e size v n xs) (hb:b≤base):w.ownsRow b e size v n xs:=by
 refine⟨h.1,?_⟩
 rcases h.2 with h | ⟨g,cap,cur,h1,h2,h3⟩
 ·exact .inl h
 ·exact .inr ⟨g,cap,cur,h1,by omega,h3⟩
end Go.Proofs.YtacgknllagdkoaaGreatDoor
/-
 The direction from a hex to another: the program's function and the reference's return what a plain function on integers says, and change nothing that was there.
-/
namespace Go.Proofs.YtacgknllagdkoaaGreatDoor
open Go.RowKit
end Go.Proofs.YtacgknllagdkoaaGreatDoor
/-
 A store into a list of integers that the call owns; a new list of zeros.
-/
namespace Go.Proofs.YtacgknllagdkoaaGreatDoor
open Go.RowKit
end Go.Proofs.YtacgknllagdkoaaGreatDoor
