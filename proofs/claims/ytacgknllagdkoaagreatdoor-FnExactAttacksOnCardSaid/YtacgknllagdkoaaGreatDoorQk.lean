/-
 Texts of this seat in one module: RulO, BrdL, MarkN, MarkI, Mk, BrdW.
-/
import Derived.Deep.Slices
import Derived.Laws.BytesArg
import Derived.Test.YtacgknllagdkoaaGreatDoorQb
import Derived.Test.YtacgknllagdkoaaGreatDoorQg
import Derived.Test.YtacgknllagdkoaaGreatDoorQh
import Derived.Test.YtacgknllagdkoaaGreatDoorQi
import Derived.Test.YtacgknllagdkoaaGreatDoorQj
/-
 An argument of type Rules reads as two lists and five numbers.
-/
namespace Go.Proofs.YtacgknllagdkoaaGreatDoor
open Go.ChangeShapes Go.WideShapes Go.ChangeAt Go.RowKit Go.Joins Go.Deep
theorem RulIn.keep {w w':World} {At Ak:Option Addr} {nt nk:Nat} {l:List Ter} {m:List Knd} (h:RulIn w At Ak nt nk l m) (k:Kp w w'):RulIn w' At Ak nt nk l m :=
 ⟨h.rt.keep k,h.rk.keep k,h.bt,h.bk,h.bc,h.bn⟩
theorem cellsTer:Tryz.prog.cellsOf 224=5:=by kernel_rfl
theorem cellsKnd:Tryz.prog.cellsOf 226=6:=by kernel_rfl
theorem cellsRul:Tryz.prog.cellsOf 25=7:=by kernel_rfl
set_option maxRecDepth 100000 in
theorem rdT_of_trod {H:Type} {enc:TypeId × Value→H} {W:World} {v:Value} {n:Nat} {y:DataW H × List MemPlace}
  (hf:DataW.trod enc Tryz.prog W 0 (fun _=>true) true n 22 [v]=some y):∃ (A:Option Addr) (n c:Nat) (l:List Ter),v=.slice A n c∧RdT W A n l∧n≤9223372036854775807∧(∀ x ∈ l,x.cost.length≤9223372036854775807∧x.name.size≤9223372036854775807)∧∀ x ∈ l,∀ z ∈ x.cost,-9223372036854775808≤z∧z≤9223372036854775807:=by
 obtain⟨A,n,c,l,rfl,hl,hm,hr⟩:=rd_structs (α:=Ter) (fun g o x=>TerAt W g o x∧(x.cost.length≤9223372036854775807∧x.name.size≤9223372036854775807)∧∀ z ∈ x.cost,-9223372036854775808≤z∧z≤9223372036854775807) cellsTer Tryz.underlying22 hf (fun a fu cs x hcl hat hx=>by
  obtain⟨k,hk⟩:=fields_of_trod Tryz.underlying224 (by kernel_rfl) rfl hcl hx
  obtain⟨c0,y0,q0,h0⟩:=hk 0 _ rfl
  obtain⟨c1,y1,q1,h1⟩:=hk 1 _ rfl
  obtain⟨c2,y2,q2,h2⟩:=hk 2 _ rfl
  obtain⟨c3,y3,q3,h3⟩:=hk 3 _ rfl
  obtain⟨c4,y4,q4,h4⟩:=hk 4 _ rfl
  obtain⟨s,e0,_,ws⟩:=DataW.trod_string Tryz.underlying9 h0
  obtain⟨lc,r1,r2,r3⟩:=rdB_of_trod h1
  obtain⟨z2,e2,_,w2⟩:=DataW.trod_int Tryz.underlying3 h2
  obtain⟨z3,e3,_,w3⟩:=DataW.trod_int Tryz.underlying3 h3
  obtain⟨z4,e4,_⟩:=DataW.trod_bool Tryz.underlying4 h4
  simp only [List.cons.injEq,and_true] at e0 e2 e3 e4
  subst e0 e2 e3 e4
  have g0:=(hat 0 (by omega)).trans q0
  have g1:=(hat 1 (by omega)).trans q1
  have g2:=(hat 2 (by omega)).trans q2
  have g3:=(hat 3 (by omega)).trans q3
  have g4:=(hat 4 (by omega)).trans q4
  obtain⟨b,off,spot⟩:=a
  have hspot:spot=none:=by
   have:=World.cell?_spot g0
   simpa [Addr.add] using this
  subst hspot
  rw [add_none'] at g0 g1 g2 g3 g4
  obtain⟨A1,c1',rfl⟩:=r1.shape
  unfold maxLen at ws
  exact⟨rfl,⟨s,lc,z2,z3,z4⟩,⟨A1,c1',⟨g0,g1,g2,g3,g4⟩,r1⟩,⟨r2,by simp only;omega⟩,r3⟩)
 have mem:∀ x ∈ l,∃ g o,TerAt W g o x∧(x.cost.length≤9223372036854775807∧x.name.size≤9223372036854775807)∧∀ z ∈ x.cost,-9223372036854775808≤z∧z≤9223372036854775807:=fun x hx=>by
  obtain⟨i,hi,rfl⟩:=List.mem_iff_getElem.1 hx
  obtain⟨g,off,rfl,hc⟩:=hr (by omega)
  exact⟨_,_,hc i _ (List.getElem?_eq_getElem hi)⟩
 unfold maxLen at hm
 refine⟨A,n,c,l,rfl,⟨hl,fun h0=>?_⟩,by omega,fun x hx=>?_,fun x hx=>?_⟩
 ·obtain⟨g,off,e,hc⟩:=hr h0
  exact⟨g,off,e,fun i x hx=>(hc i x hx).1⟩
 ·obtain⟨_,_,_,h,_⟩:=mem x hx
  exact h
 ·obtain⟨_,_,_,_,h⟩:=mem x hx
  exact h
set_option maxRecDepth 100000 in
theorem rdK_of_trod {H:Type} {enc:TypeId × Value→H} {W:World} {v:Value} {n:Nat} {y:DataW H × List MemPlace}
  (hf:DataW.trod enc Tryz.prog W 0 (fun _=>true) true n 23 [v]=some y):∃ (A:Option Addr) (n c:Nat) (l:List Knd),v=.slice A n c∧RdK W A n l∧n≤9223372036854775807∧∀ x ∈ l,x.name.size≤9223372036854775807:=by
 obtain⟨A,n,c,l,rfl,hl,hm,hr⟩:=rd_structs (α:=Knd) (fun g o x=>KndAt W g o x∧x.name.size≤9223372036854775807) cellsKnd Tryz.underlying23 hf (fun a fu cs x hcl hat hx=>by
  obtain⟨k,hk⟩:=fields_of_trod Tryz.underlying226 (by kernel_rfl) rfl hcl hx
  obtain⟨c0,y0,q0,h0⟩:=hk 0 _ rfl
  obtain⟨c1,y1,q1,h1⟩:=hk 1 _ rfl
  obtain⟨c2,y2,q2,h2⟩:=hk 2 _ rfl
  obtain⟨c3,y3,q3,h3⟩:=hk 3 _ rfl
  obtain⟨c4,y4,q4,h4⟩:=hk 4 _ rfl
  obtain⟨c5,y5,q5,h5⟩:=hk 5 _ rfl
  obtain⟨s,e0,_,ws⟩:=DataW.trod_string Tryz.underlying9 h0
  obtain⟨z1,e1,_,w1⟩:=DataW.trod_int Tryz.underlying3 h1
  obtain⟨z2,e2,_,w2⟩:=DataW.trod_int Tryz.underlying3 h2
  obtain⟨z3,e3,_,w3⟩:=DataW.trod_int Tryz.underlying3 h3
  obtain⟨z4,e4,_⟩:=DataW.trod_bool Tryz.underlying4 h4
  obtain⟨z5,e5,_,w5⟩:=DataW.trod_int Tryz.underlying3 h5
  simp only [List.cons.injEq,and_true] at e0 e1 e2 e3 e4 e5
  subst e0 e1 e2 e3 e4 e5
  have g0:=(hat 0 (by omega)).trans q0
  have g1:=(hat 1 (by omega)).trans q1
  have g2:=(hat 2 (by omega)).trans q2
  have g3:=(hat 3 (by omega)).trans q3
  have g4:=(hat 4 (by omega)).trans q4
  have g5:=(hat 5 (by omega)).trans q5
  obtain⟨b,off,spot⟩:=a
  have hspot:spot=none:=by
   have:=World.cell?_spot g0
   simpa [Addr.add] using this
  subst hspot
  rw [add_none'] at g0 g1 g2 g3 g4 g5
  unfold maxLen at ws
  exact⟨rfl,⟨s,z1,z2,z3,z4,z5⟩,⟨g0,g1,g2,g3,g4,g5⟩,by simp only;omega⟩)
 unfold maxLen at hm
 refine⟨A,n,c,l,rfl,⟨hl,fun h0=>?_⟩,by omega,fun x hx=>?_⟩
 ·obtain⟨g,off,e,hc⟩:=hr h0
  exact⟨g,off,e,fun i x hx=>(hc i x hx).1⟩
 ·obtain⟨i,hi,rfl⟩:=List.mem_iff_getElem.1 hx
  obtain⟨g,off,rfl,hc⟩:=hr (by omega)
  exact(hc i _ (List.getElem?_eq_getElem hi)).2
theorem seven {α:Type} {l:List α} (h:l.length=7) {a b c d e f g:α} (h0:l[0]?=some a) (h1:l[1]?=some b) (h2:l[2]?=some c) (h3:l[3]?=some d) (h4:l[4]?=some e) (h5:l[5]?=some f) (h6:l[6]?=some g):l=[a,b,c,d,e,f,g]:=by
 match l,h with
 | [x0,x1,x2,x3,x4,x5,x6],_=>simp_all
set_option maxRecDepth 100000 in
/-- Seven cells that read as rules. -/
theorem rules_cells {H:Type} {enc:TypeId × Value→H} {W:World} {cs:List Value} {n:Nat} (hl:cs.length=7)
  (hf:∀ (j:Nat) (f:Field),(match Tryz.prog.underlying 25 with | some (.struct fs)=>fs | _=>#[])[j]?=some f→∃ c y,cs[j]?=some c∧DataW.trod enc Tryz.prog W 0 (fun _=>true) true n f.type [c]=some y) :
  ∃ (At Ak:Option Addr) (nt nk ct ck:Nat) (l:List Ter) (m:List Knd) (a b c d e:Int),cs=[.slice At nt ct,.slice Ak nk ck,.int .i64 a,.int .i64 b,.int .i64 c,.int .i64 d,.int .i64 e]∧RulIn W At Ak nt nk l m∧∀ x ∈ l,∀ z ∈ x.cost,-9223372036854775808≤z∧z≤9223372036854775807:=by
 rw [Tryz.underlying25] at hf
 obtain⟨c0,y0,q0,h0⟩:=hf 0 _ rfl
 obtain⟨c1,y1,q1,h1⟩:=hf 1 _ rfl
 obtain⟨c2,y2,q2,h2⟩:=hf 2 _ rfl
 obtain⟨c3,y3,q3,h3⟩:=hf 3 _ rfl
 obtain⟨c4,y4,q4,h4⟩:=hf 4 _ rfl
 obtain⟨c5,y5,q5,h5⟩:=hf 5 _ rfl
 obtain⟨c6,y6,q6,h6⟩:=hf 6 _ rfl
 obtain rfl:=seven hl q0 q1 q2 q3 q4 q5 q6
 obtain⟨At,nt,ct,l,rfl,r1,r2,r3,r4⟩:=rdT_of_trod h0
 obtain⟨Ak,nk,ck,m,rfl,s1,s2,s3⟩:=rdK_of_trod h1
 obtain⟨a,e2,_,_⟩:=DataW.trod_int Tryz.underlying3 h2
 obtain⟨b,e3,_,_⟩:=DataW.trod_int Tryz.underlying3 h3
 obtain⟨c,e4,_,_⟩:=DataW.trod_int Tryz.underlying3 h4
 obtain⟨d,e5,_,_⟩:=DataW.trod_int Tryz.underlying3 h5
 obtain⟨e,e6,_,_⟩:=DataW.trod_int Tryz.underlying3 h6
 simp only [List.cons.injEq,and_true] at e2 e3 e4 e5 e6
 subst e2 e3 e4 e5 e6
 exact⟨At,Ak,nt,nk,ct,ck,l,m,a,b,c,d,e,rfl,⟨r1,s1,r2,s2,r3,s3⟩,r4⟩
end Go.Proofs.YtacgknllagdkoaaGreatDoor
/-
 The laws' functions on boards: sizes, copies in memory of their own, the comparison of two that hold the same; an argument of type Board. Nothing that was there is changed.
-/
namespace Go.Proofs.YtacgknllagdkoaaGreatDoor
open Go.ChangeShapes Go.WideShapes Go.ChangeAt Go.RowKit Go.Joins Go.Deep
def mapSm (lt lr ld:List Int):Prop:=lt.length≤1048576∧lr.length≤1048576∧ld.length≤1048576
theorem Reads.lists' {w:World} {t r d:Value} {lt lr ld:List Int} (h:Reads w t r d lt lr ld) (s:mapSm lt lr ld):Lists w t r d lt lr ld :=
 ⟨h.rt,h.rr,h.rd,s.1,s.2.1,s.2.2,h.it,h.ir,h.id⟩
theorem Reads.keep {w w':World} {t r d:Value} {lt lr ld:List Int} (h:Reads w t r d lt lr ld) (k:Kp w w'):Reads w' t r d lt lr ld :=
 ⟨h.rt.keep k,h.rr.keep k,h.rd.keep k,h.bt,h.br,h.bd,h.it,h.ir,h.id⟩
set_option maxHeartbeats 1000000 in
theorem szMap_gen (W H:Int) (At Ar Ad:Option Addr) (nt ct nr cr nd cd:Nat) (left:Int) (w:World) (h0:0≤left) (hL:left≤1048576) (h1:nt≤9223372036854775807) (h2:nr≤9223372036854775807) (h3:nd≤9223372036854775807) :
  Calls Tryz.prog 59 #[mp W H (.slice At nt ct) (.slice Ar nr cr) (.slice Ad nd cd),.int .i64 left] w (SzPost (nt≤1048576∧nr≤1048576∧nd≤1048576) w):=by
 by_cases a1:(nt:Int)≤left
 ·by_cases a2:(nr:Int)≤left - nt
  ·by_cases a3:(nd:Int)≤left - nt - nr
   ·go_enter Tryz.func59,Tryz.ntmps59
    go_wp2_with fail
    refine(szIntS_yes _ _ _ _ _ (by omega) (by omega) (by omega)).mono ?_
    rintro e1 w1 ⟨rfl,rfl⟩
    go_wp2_with fail
    refine(szIntS_yes _ _ _ _ _ (by omega) (by omega) (by omega)).mono ?_
    rintro e1 w1 ⟨rfl,rfl⟩
    go_wp2_with fail
    refine(szIntS_yes _ _ _ _ _ (by omega) (by omega) (by omega)).mono ?_
    rintro e1 w1 ⟨rfl,rfl⟩
    go_wp2_with fail
    go_ret
    exact⟨_,rfl,by omega,by omega,fun _=>⟨by omega,by omega,by omega⟩,(Kp.refl _).alloc _⟩
   ·go_enter Tryz.func59,Tryz.ntmps59
    go_wp2_with fail
    refine(szIntS_yes _ _ _ _ _ (by omega) (by omega) (by omega)).mono ?_
    rintro e1 w1 ⟨rfl,rfl⟩
    go_wp2_with fail
    refine(szIntS_yes _ _ _ _ _ (by omega) (by omega) (by omega)).mono ?_
    rintro e1 w1 ⟨rfl,rfl⟩
    go_wp2_with fail
    refine(szIntS_no _ _ _ _ _ (by omega) (by omega) (by omega) (by omega)).mono ?_
    rintro e1 w1 ⟨rfl,rfl⟩
    go_wp2_with fail
    go_ret
    exact⟨_,rfl,by omega,by omega,fun h=>absurd h (by omega),(Kp.refl _).alloc _⟩
  ·go_enter Tryz.func59,Tryz.ntmps59
   go_wp2_with fail
   refine(szIntS_yes _ _ _ _ _ (by omega) (by omega) (by omega)).mono ?_
   rintro e1 w1 ⟨rfl,rfl⟩
   go_wp2_with fail
   refine(szIntS_no _ _ _ _ _ (by omega) (by omega) (by omega) (by omega)).mono ?_
   rintro e1 w1 ⟨rfl,rfl⟩
   go_wp2_with fail
   go_ret
   exact⟨_,rfl,by omega,by omega,fun h=>absurd h (by omega),(Kp.refl _).alloc _⟩
 ·go_enter Tryz.func59,Tryz.ntmps59
  go_wp2_with fail
  refine(szIntS_no _ _ _ _ _ (by omega) (by omega) (by omega) (by omega)).mono ?_
  rintro e1 w1 ⟨rfl,rfl⟩
  go_wp2_with fail
  go_ret
  exact⟨_,rfl,by omega,by omega,fun h=>absurd h (by omega),(Kp.refl _).alloc _⟩
/-- What an argument's board is: rules and three lists, within Go's own bounds. -/
structure BrdIn (w:World) (At Ak:Option Addr) (nt nk:Nat) (l:List Ter) (m:List Knd) (x r y:Value) (lt lr ld:List Int):Prop where
 R:RulIn w At Ak nt nk l m
 L:Reads w x r y lt lr ld
theorem BrdIn.keep {w w':World} {At Ak:Option Addr} {nt nk:Nat} {l:List Ter} {m:List Knd} {x r y:Value} {lt lr ld:List Int} (h:BrdIn w At Ak nt nk l m x r y lt lr ld) (k:Kp w w'):BrdIn w' At Ak nt nk l m x r y lt lr ld :=
 ⟨h.R.keep k,h.L.keep k⟩
def brdSm (nt nk:Nat) (l:List Ter) (m:List Knd) (lt lr ld:List Int):Prop:=rulSm nt nk l m∧mapSm lt lr ld
theorem BrdIn.at {w:World} {At Ak:Option Addr} {nt nk:Nat} {l:List Ter} {m:List Knd} {x r y:Value} {lt lr ld:List Int} (h:BrdIn w At Ak nt nk l m x r y lt lr ld) (s:brdSm nt nk l m lt lr ld):BrdAt w At Ak nt nk l m x r y lt lr ld :=
 ⟨h.R.at s.1,h.L.lists' s.2⟩
set_option maxRecDepth 100000 in
set_option maxHeartbeats 4000000 in
theorem szBoard_any (At Ak:Option Addr) (nt nk ct ck:Nat) (l:List Ter) (m:List Knd) (a b c d e W H:Int) (x r y:Value) (lt lr ld:List Int) (left:Int) (w:World) (h:BrdIn w At Ak nt nk l m x r y lt lr ld) (h0:0≤left) (hL:left≤1048576) :
  Calls Tryz.prog 14 #[bv (.slice At nt ct) (.slice Ak nk ck) a b c d e W H x r y,.int .i64 left] w (SzPost (brdSm nt nk l m lt lr ld) w):=by
 have KA:Kp w (w.alloc (.cells #[.slice At nt ct,.slice Ak nk ck,.int .i64 a,.int .i64 b,.int .i64 c,.int .i64 d,.int .i64 e,.int .i64 W,.int .i64 H,x,r,y] 30)):=(Kp.refl w).alloc _
 have s0:ce12 (w.alloc (.cells #[.slice At nt ct,.slice Ak nk ck,.int .i64 a,.int .i64 b,.int .i64 c,.int .i64 d,.int .i64 e,.int .i64 W,.int .i64 H,x,r,y] 30)) (w.heap.size) (.slice At nt ct) (.slice Ak nk ck) (.int .i64 a) (.int .i64 b) (.int .i64 c) (.int .i64 d) (.int .i64 e) (.int .i64 W) (.int .i64 H) (x) (r) (y):=⟨by simp [go_sem],by simp [go_sem],by simp [go_sem],by simp [go_sem],by simp [go_sem],by simp [go_sem],by simp [go_sem],by simp [go_sem],by simp [go_sem],by simp [go_sem],by simp [go_sem],by simp [go_sem]⟩
 have HR:=Lib.hid (h.R.keep KA)
 have bt:=h.L.bt
 have br:=h.L.br
 have bd:=h.L.bd
 have C2:Hid (∀ (left:Int) (w:World),0≤left→left≤1048576→Calls Tryz.prog 59 #[mp W H x r y,.int .i64 left] w (SzPost (mapSm lt lr ld) w)):=Lib.hid fun left w h0 h1=>by
  obtain⟨A1,c1,rfl⟩:=h.L.rt.shape
  obtain⟨A2,c2,rfl⟩:=h.L.rr.shape
  obtain⟨A3,c3,rfl⟩:=h.L.rd.shape
  exact szMap_gen W H A1 A2 A3 _ c1 _ c2 _ c3 left w h0 h1 bt br bd
 clear h
 go_enter Tryz.func14,Tryz.ntmps14
 go_wp2_with fail
 refine(szRules_any _ _ _ _ _ _ l m _ _ _ _ _ _ _ HR.out h0 hL).mono ?_
 rintro e1 w1 ⟨r1,rfl,u1,u2,u3,k1⟩
 have s1:=keepb12 k1 s0
 have U3:=Lib.hid u3
 have K1:=KA.trans k1
 clear s0 k1 u3
 by_cases hneg:r1<0
 ·go_wp2_with fail
  go_ret
  exact⟨_,rfl,by omega,by omega,fun h=>absurd h (by omega),K1⟩
 ·go_wp2_with fail
  refine(C2.out _ _ (by omega) u1).mono ?_
  rintro e2 w2 ⟨r2,rfl,v1,v2,v3,k2⟩
  have V3:=Lib.hid v3
  clear v3
  by_cases hneg2:r2<0
  ·go_wp2_with fail
   go_ret
   exact⟨_,rfl,by omega,by omega,fun h=>absurd h (by omega),K1.trans k2⟩
  ·go_wp2_with fail
   go_ret
   exact⟨_,rfl,v1,v2,fun _=>⟨U3.out (by omega),V3.out (by omega)⟩,K1.trans k2⟩
theorem OwnR.far {w:World} {base g1 g2 nt nk:Nat} {l:List Ter} {m:List Knd} {cs:List (Option Addr × Nat)} {ys zs:List Value} (h:OwnR w base g1 g2 nt nk l m cs ys zs) {b j:Nat} (hb:b<base) (u:Value):OwnR (w.setCell ⟨b,j,none⟩ u) base g1 g2 nt nk l m cs ys zs :=
 ⟨h.t.far (Nat.lt_of_lt_of_le hb h.b) u,h.k.far (by have:=h.b;have:=h.g;omega) u,h.lc,h.lt,h.lk,h.b,h.g,by simpa using h.z,h.mid⟩
theorem OwnR.base {w:World} {base b g1 g2 nt nk:Nat} {l:List Ter} {m:List Knd} {cs:List (Option Addr × Nat)} {ys zs:List Value} (h:OwnR w base g1 g2 nt nk l m cs ys zs) (hb:b≤base):OwnR w b g1 g2 nt nk l m cs ys zs :=
 ⟨h.t,h.k,h.lc,h.lt,h.lk,by have:=h.b;omega,h.g,h.z,h.mid⟩
theorem Own3.far {w:World} {base:Nat} {t r d:Value} {lt lr ld:List Int} (h:Own3 w base t r d lt lr ld) {b j:Nat} (hb:b<base) (u:Value):Own3 (w.setCell ⟨b,j,none⟩ u) base t r d lt lr ld :=
 ⟨h.ot.far (h.ot.not hb) u,h.or.far (h.or.not hb) u,h.od.far (h.od.not hb) u,h.tr,h.td,h.rd⟩
theorem Own3.base {w:World} {base b:Nat} {t r d:Value} {lt lr ld:List Int} (h:Own3 w base t r d lt lr ld) (hb:b≤base):Own3 w b t r d lt lr ld :=
 ⟨h.ot.base hb,h.or.base hb,h.od.base hb,h.tr,h.td,h.rd⟩
/-- A copied board: rules, and a map's lists behind them. -/
structure OwnBrd (w:World) (base g1 g2 nt nk:Nat) (l:List Ter) (m:List Knd) (cs:List (Option Addr × Nat)) (ys zs:List Value) (x r y:Value) (lt lr ld:List Int):Prop where
 R:OwnR w base g1 g2 nt nk l m cs ys zs
 M:Own3 w (g2+1) x r y lt lr ld
theorem OwnBrd.keep {w w':World} {base g1 g2 nt nk:Nat} {l:List Ter} {m:List Knd} {cs:List (Option Addr × Nat)} {ys zs:List Value} {x r y:Value} {lt lr ld:List Int} (h:OwnBrd w base g1 g2 nt nk l m cs ys zs x r y lt lr ld) (k:Kp w w'):OwnBrd w' base g1 g2 nt nk l m cs ys zs x r y lt lr ld :=
 ⟨h.R.keep k,h.M.keep k⟩
theorem OwnBrd.at {w w0:World} {At Ak:Option Addr} {base g1 g2 nt nk:Nat} {l:List Ter} {m:List Knd} {cs:List (Option Addr × Nat)} {ys zs:List Value} {x r y x0 r0 y0:Value} {lt lr ld:List Int} (h:OwnBrd w base g1 g2 nt nk l m cs ys zs x r y lt lr ld) (b:BrdAt w0 At Ak nt nk l m x0 r0 y0 lt lr ld):BrdAt w (some ⟨g1,0,none⟩) (some ⟨g2,0,none⟩) nt nk l m x r y lt lr ld :=
 ⟨h.R.rul b.R,h.M.lists b.L⟩
abbrev Live12 (w:World) (b:Nat) (v0 v1 v2 v3 v4 v5 v6 v7 v8 v9 v10 v11:Value):Prop :=
 (w.cell? ⟨b,0,none⟩=some v0∧w.frozen? ⟨b,0,none⟩=false)∧(w.cell? ⟨b,1,none⟩=some v1∧w.frozen? ⟨b,1,none⟩=false)∧(w.cell? ⟨b,2,none⟩=some v2∧w.frozen? ⟨b,2,none⟩=false)∧(w.cell? ⟨b,3,none⟩=some v3∧w.frozen? ⟨b,3,none⟩=false)∧(w.cell? ⟨b,4,none⟩=some v4∧w.frozen? ⟨b,4,none⟩=false)∧(w.cell? ⟨b,5,none⟩=some v5∧w.frozen? ⟨b,5,none⟩=false)∧(w.cell? ⟨b,6,none⟩=some v6∧w.frozen? ⟨b,6,none⟩=false)∧(w.cell? ⟨b,7,none⟩=some v7∧w.frozen? ⟨b,7,none⟩=false)∧(w.cell? ⟨b,8,none⟩=some v8∧w.frozen? ⟨b,8,none⟩=false)∧(w.cell? ⟨b,9,none⟩=some v9∧w.frozen? ⟨b,9,none⟩=false)∧(w.cell? ⟨b,10,none⟩=some v10∧w.frozen? ⟨b,10,none⟩=false)∧(w.cell? ⟨b,11,none⟩=some v11∧w.frozen? ⟨b,11,none⟩=false)
theorem live12_keep {w w':World} {b:Nat} {v0 v1 v2 v3 v4 v5 v6 v7 v8 v9 v10 v11:Value} (k:Kp w w') (h:Live12 w b v0 v1 v2 v3 v4 v5 v6 v7 v8 v9 v10 v11):Live12 w' b v0 v1 v2 v3 v4 v5 v6 v7 v8 v9 v10 v11 :=
 ⟨k.liv h.1,k.liv h.2.1,k.liv h.2.2.1,k.liv h.2.2.2.1,k.liv h.2.2.2.2.1,k.liv h.2.2.2.2.2.1,k.liv h.2.2.2.2.2.2.1,k.liv h.2.2.2.2.2.2.2.1,k.liv h.2.2.2.2.2.2.2.2.1,k.liv h.2.2.2.2.2.2.2.2.2.1,k.liv h.2.2.2.2.2.2.2.2.2.2.1,k.liv h.2.2.2.2.2.2.2.2.2.2.2⟩
set_option maxRecDepth 100000 in
set_option maxHeartbeats 8000000 in
theorem toBoard_any (At Ak:Option Addr) (nt nk ct ck:Nat) (l:List Ter) (m:List Knd) (a b c d e W H:Int) (x r y:Value) (lt lr ld:List Int) (mt mr md:Nat) (w:World) (h:BrdAt w At Ak nt nk l m x r y lt lr ld) (e1:lt.length=mt) (e2:lr.length=mr) (e3:ld.length=md) :
  Calls Tryz.prog 18 #[bv (.slice At nt ct) (.slice Ak nk ck) a b c d e W H x r y] w fun e' w'=>∃ (g1 g2:Nat) (cs:List (Option Addr × Nat)) (ys zs:List Value) (A1:Option Addr) (c1:Nat) (A2:Option Addr) (c2:Nat) (A3:Option Addr) (c3:Nat),e'=.returned (bv (.slice (some ⟨g1,0,none⟩) nt nt) (.slice (some ⟨g2,0,none⟩) nk nk) a b c d e W H (.slice A1 mt c1) (.slice A2 mr c2) (.slice A3 md c3))∧OwnBrd w' w.heap.size g1 g2 nt nk l m cs ys zs (.slice A1 mt c1) (.slice A2 mr c2) (.slice A3 md c3) lt lr ld∧Kp w w':=by
 have HB:=Lib.hid h
 have k0:Kp w (((w.alloc (.cells #[.slice At nt ct,.slice Ak nk ck,.int .i64 a,.int .i64 b,.int .i64 c,.int .i64 d,.int .i64 e,.int .i64 W,.int .i64 H,x,r,y] 30)).alloc (.cells #[.slice none 0 0,.slice none 0 0,.int .i64 0,.int .i64 0,.int .i64 0,.int .i64 0,.int .i64 0,.int .i64 0,.int .i64 0,.slice none 0 0,.slice none 0 0,.slice none 0 0] 47)).alloc (.cells #[.slice none 0 0,.slice none 0 0,.int .i64 0,.int .i64 0,.int .i64 0,.int .i64 0,.int .i64 0,.int .i64 0,.int .i64 0,.slice none 0 0,.slice none 0 0,.slice none 0 0] 47)):=(((Kp.refl w).alloc _).alloc _).alloc _
 have CT:=Lib.hid (fun w (h:Lists w x r y lt lr ld)=>toMap_sl W H x r y lt lr ld mt mr md w h e1 e2 e3)
 clear h e1 e2 e3
 go_enter Tryz.func18,Tryz.ntmps18
 go_wp2_with fail
 refine(toRules_any _ _ _ _ _ _ l m _ _ _ _ _ _ (HB.out.keep k0).R).mono ?_
 rintro e1 w1 ⟨g1,g2,cs,ys,zs,rfl,o1,k1⟩
 have a7:w1.cell? ⟨w.heap.size,7,none⟩=some (.int .i64 W):=k1.cell (by simp [go_sem])
 have a8:w1.cell? ⟨w.heap.size,8,none⟩=some (.int .i64 H):=k1.cell (by simp [go_sem])
 have a9:w1.cell? ⟨w.heap.size,9,none⟩=some (x):=k1.cell (by simp [go_sem])
 have a10:w1.cell? ⟨w.heap.size,10,none⟩=some (r):=k1.cell (by simp [go_sem])
 have a11:w1.cell? ⟨w.heap.size,11,none⟩=some (y):=k1.cell (by simp [go_sem])
 have L1:Live12 w1 (w.heap.size+1) (.slice none 0 0) (.slice none 0 0) (.int .i64 0) (.int .i64 0) (.int .i64 0) (.int .i64 0) (.int .i64 0) (.int .i64 0) (.int .i64 0) (.slice none 0 0) (.slice none 0 0) (.slice none 0 0):=live12_keep k1 ⟨by simp [go_sem],by simp [go_sem],by simp [go_sem],by simp [go_sem],by simp [go_sem],by simp [go_sem],by simp [go_sem],by simp [go_sem],by simp [go_sem],by simp [go_sem],by simp [go_sem],by simp [go_sem]⟩
 have M1:Live12 w1 (w.heap.size+1+1) (.slice none 0 0) (.slice none 0 0) (.int .i64 0) (.int .i64 0) (.int .i64 0) (.int .i64 0) (.int .i64 0) (.int .i64 0) (.int .i64 0) (.slice none 0 0) (.slice none 0 0) (.slice none 0 0):=live12_keep k1 ⟨by simp [go_sem],by simp [go_sem],by simp [go_sem],by simp [go_sem],by simp [go_sem],by simp [go_sem],by simp [go_sem],by simp [go_sem],by simp [go_sem],by simp [go_sem],by simp [go_sem],by simp [go_sem]⟩
 have K1:Kp w w1:=k0.trans k1
 have eg:(((w.alloc (.cells #[.slice At nt ct,.slice Ak nk ck,.int .i64 a,.int .i64 b,.int .i64 c,.int .i64 d,.int .i64 e,.int .i64 W,.int .i64 H,x,r,y] 30)).alloc (.cells #[.slice none 0 0,.slice none 0 0,.int .i64 0,.int .i64 0,.int .i64 0,.int .i64 0,.int .i64 0,.int .i64 0,.int .i64 0,.slice none 0 0,.slice none 0 0,.slice none 0 0] 47)).alloc (.cells #[.slice none 0 0,.slice none 0 0,.int .i64 0,.int .i64 0,.int .i64 0,.int .i64 0,.int .i64 0,.int .i64 0,.int .i64 0,.slice none 0 0,.slice none 0 0,.slice none 0 0] 47)).heap.size=w.heap.size+3:=by simp
 rw [eg] at o1
 have z1:w.heap.size+3<w1.heap.size:=by have:=o1.b;have:=o1.g;have:=o1.z;omega
 have z1b:g2<w1.heap.size:=o1.z
 have O1:=Lib.hid o1
 clear k0 k1 o1 eg
 go_wp2_with fail
 have K1':Kp w (((((((w1.setCell ⟨w.heap.size+1+1,0,none⟩ (.slice (some ⟨g1,0,none⟩) nt nt)).setCell ⟨w.heap.size+1+1,1,none⟩ (.slice (some ⟨g2,0,none⟩) nk nk)).setCell ⟨w.heap.size+1+1,2,none⟩ (.int .i64 a)).setCell ⟨w.heap.size+1+1,3,none⟩ (.int .i64 b)).setCell ⟨w.heap.size+1+1,4,none⟩ (.int .i64 c)).setCell ⟨w.heap.size+1+1,5,none⟩ (.int .i64 d)).setCell ⟨w.heap.size+1+1,6,none⟩ (.int .i64 e)):=(((((((K1.setCell (by simp <;> omega) _).setCell (by simp <;> omega) _).setCell (by simp <;> omega) _).setCell (by simp <;> omega) _).setCell (by simp <;> omega) _).setCell (by simp <;> omega) _).setCell (by simp <;> omega) _)
 refine(CT.out _ (HB.out.keep K1').L).mono ?_
 rintro e2 w2 ⟨A1,c1,A2,c2,A3,c3,rfl,o2,k2⟩
 have L2:Live12 w2 (w.heap.size+1) (.slice none 0 0) (.slice none 0 0) (.int .i64 0) (.int .i64 0) (.int .i64 0) (.int .i64 0) (.int .i64 0) (.int .i64 0) (.int .i64 0) (.slice none 0 0) (.slice none 0 0) (.slice none 0 0):=live12_keep k2 ⟨by simp [go_sem, *],by simp [go_sem, *],by simp [go_sem, *],by simp [go_sem, *],by simp [go_sem, *],by simp [go_sem, *],by simp [go_sem, *],by simp [go_sem, *],by simp [go_sem, *],by simp [go_sem, *],by simp [go_sem, *],by simp [go_sem, *]⟩
 have M2:Live12 w2 (w.heap.size+1+1) (.slice (some ⟨g1,0,none⟩) nt nt) (.slice (some ⟨g2,0,none⟩) nk nk) (.int .i64 a) (.int .i64 b) (.int .i64 c) (.int .i64 d) (.int .i64 e) (.int .i64 0) (.int .i64 0) (.slice none 0 0) (.slice none 0 0) (.slice none 0 0):=live12_keep k2 ⟨by simp [go_sem, *],by simp [go_sem, *],by simp [go_sem, *],by simp [go_sem, *],by simp [go_sem, *],by simp [go_sem, *],by simp [go_sem, *],by simp [go_sem, *],by simp [go_sem, *],by simp [go_sem, *],by simp [go_sem, *],by simp [go_sem, *]⟩
 have K2:Kp w w2:=K1'.trans k2
 have O2:=Lib.hid ((((((((O1.out.far (by omega) _).far (by omega) _).far (by omega) _).far (by omega) _).far (by omega) _).far (by omega) _).far (by omega) _).keep k2)
 have eg:(((((((w1.setCell ⟨w.heap.size+1+1,0,none⟩ (.slice (some ⟨g1,0,none⟩) nt nt)).setCell ⟨w.heap.size+1+1,1,none⟩ (.slice (some ⟨g2,0,none⟩) nk nk)).setCell ⟨w.heap.size+1+1,2,none⟩ (.int .i64 a)).setCell ⟨w.heap.size+1+1,3,none⟩ (.int .i64 b)).setCell ⟨w.heap.size+1+1,4,none⟩ (.int .i64 c)).setCell ⟨w.heap.size+1+1,5,none⟩ (.int .i64 d)).setCell ⟨w.heap.size+1+1,6,none⟩ (.int .i64 e)).heap.size=w1.heap.size:=by simp
 rw [eg] at o2
 have P2:=Lib.hid o2
 have z2:w.heap.size+3≤w2.heap.size:=by have:=k2.size;rw [eg] at this;omega
 clear K1' k2 o2 a7 a8 a9 a10 a11 L1 M1 K1 O1 eg
 go_wp2_with fail
 refine bodyPost_ret (v:=bv (.slice (some ⟨g1,0,none⟩) nt nt) (.slice (some ⟨g2,0,none⟩) nk nk) a b c d e W H (.slice A1 mt c1) (.slice A2 mr c2) (.slice A3 md c3)) (by simp [results,Tryz.results18,go_sem, *]) rfl ⟨g1,g2,cs,ys,zs,A1,c1,A2,c2,A3,c3,rfl,⟨?_,?_⟩,?_⟩
 ·exact(((((((((((((((((O2.out.far (by omega) _).far (by omega) _).far (by omega) _).far (by omega) _).far (by omega) _).far (by omega) _).far (by omega) _).far (by omega) _).far (by omega) _).far (by omega) _).far (by omega) _).far (by omega) _).far (by omega) _).far (by omega) _).far (by omega) _).far (by omega) _).far (by omega) _).base (by omega)
 ·exact(((((((((((((((((P2.out.far (by omega) _).far (by omega) _).far (by omega) _).far (by omega) _).far (by omega) _).far (by omega) _).far (by omega) _).far (by omega) _).far (by omega) _).far (by omega) _).far (by omega) _).far (by omega) _).far (by omega) _).far (by omega) _).far (by omega) _).far (by omega) _).far (by omega) _).base (by omega)
 ·exact(((((((((((((((((K2.setCell (by simp <;> omega) _).setCell (by simp <;> omega) _).setCell (by simp <;> omega) _).setCell (by simp <;> omega) _).setCell (by simp <;> omega) _).setCell (by simp <;> omega) _).setCell (by simp <;> omega) _).setCell (by simp <;> omega) _).setCell (by simp <;> omega) _).setCell (by simp <;> omega) _).setCell (by simp <;> omega) _).setCell (by simp <;> omega) _).setCell (by simp <;> omega) _).setCell (by simp <;> omega) _).setCell (by simp <;> omega) _).setCell (by simp <;> omega) _).setCell (by simp <;> omega) _)
set_option maxRecDepth 100000 in
set_option maxHeartbeats 4000000 in
theorem eqBoard_same (At Ak Bt Bk:Option Addr) (nt nk ct ck dt dk:Nat) (l:List Ter) (m:List Knd) (a b c d e W H:Int) (x r y x2 r2 y2:Value) (lt lr ld:List Int) (w:World) (hA:BrdAt w At Ak nt nk l m x r y lt lr ld) (hB:BrdAt w Bt Bk nt nk l m x2 r2 y2 lt lr ld) :
  Calls Tryz.prog 22 #[bv (.slice At nt ct) (.slice Ak nk ck) a b c d e W H x r y,bv (.slice Bt nt dt) (.slice Bk nk dk) a b c d e W H x2 r2 y2] w fun e' w'=>e'=.returned (.bool true)∧Kp w w':=by
 have KA:Kp w ((w.alloc (.cells #[.slice At nt ct,.slice Ak nk ck,.int .i64 a,.int .i64 b,.int .i64 c,.int .i64 d,.int .i64 e,.int .i64 W,.int .i64 H,x,r,y] 47)).alloc (.cells #[.slice Bt nt dt,.slice Bk nk dk,.int .i64 a,.int .i64 b,.int .i64 c,.int .i64 d,.int .i64 e,.int .i64 W,.int .i64 H,x2,r2,y2] 47)):=((Kp.refl w).alloc _).alloc _
 have sA:ce12 ((w.alloc (.cells #[.slice At nt ct,.slice Ak nk ck,.int .i64 a,.int .i64 b,.int .i64 c,.int .i64 d,.int .i64 e,.int .i64 W,.int .i64 H,x,r,y] 47)).alloc (.cells #[.slice Bt nt dt,.slice Bk nk dk,.int .i64 a,.int .i64 b,.int .i64 c,.int .i64 d,.int .i64 e,.int .i64 W,.int .i64 H,x2,r2,y2] 47)) (w.heap.size) (.slice At nt ct) (.slice Ak nk ck) (.int .i64 a) (.int .i64 b) (.int .i64 c) (.int .i64 d) (.int .i64 e) (.int .i64 W) (.int .i64 H) (x) (r) (y):=⟨by simp [go_sem],by simp [go_sem],by simp [go_sem],by simp [go_sem],by simp [go_sem],by simp [go_sem],by simp [go_sem],by simp [go_sem],by simp [go_sem],by simp [go_sem],by simp [go_sem],by simp [go_sem]⟩
 have sB:ce12 ((w.alloc (.cells #[.slice At nt ct,.slice Ak nk ck,.int .i64 a,.int .i64 b,.int .i64 c,.int .i64 d,.int .i64 e,.int .i64 W,.int .i64 H,x,r,y] 47)).alloc (.cells #[.slice Bt nt dt,.slice Bk nk dk,.int .i64 a,.int .i64 b,.int .i64 c,.int .i64 d,.int .i64 e,.int .i64 W,.int .i64 H,x2,r2,y2] 47)) (w.heap.size+1) (.slice Bt nt dt) (.slice Bk nk dk) (.int .i64 a) (.int .i64 b) (.int .i64 c) (.int .i64 d) (.int .i64 e) (.int .i64 W) (.int .i64 H) (x2) (r2) (y2):=⟨by simp [go_sem],by simp [go_sem],by simp [go_sem],by simp [go_sem],by simp [go_sem],by simp [go_sem],by simp [go_sem],by simp [go_sem],by simp [go_sem],by simp [go_sem],by simp [go_sem],by simp [go_sem]⟩
 have HA:=Lib.hid (hA.keep KA)
 have HB:=Lib.hid (hB.keep KA)
 clear hA hB
 go_enter Tryz.func22,Tryz.ntmps22
 go_wp2_with fail
 refine(eqRules_same _ _ _ _ _ _ _ _ _ _ l m _ _ _ _ _ _ HA.out.R.rt HA.out.R.rk HB.out.R.rt HB.out.R.rk HA.out.R.bt HA.out.R.bk (fun x hx=>(HA.out.R.bc x hx).1)).mono ?_
 rintro e1 w1 ⟨rfl,k1⟩
 have tA:=keepb12 k1 sA
 have tB:=keepb12 k1 sB
 have K1:=KA.trans k1
 have HA1:=Lib.hid (HA.out.keep k1)
 have HB1:=Lib.hid (HB.out.keep k1)
 clear sA sB k1 HA HB
 go_wp2_with fail
 refine(eqMap_same _ _ _ _ _ _ _ _ lt lr ld _ HA1.out.L HB1.out.L).mono ?_
 rintro e2 w2 ⟨rfl,k2⟩
 go_wp2_with fail
 go_ret
 exact⟨rfl,K1.trans k2⟩
theorem cellsBrd:Tryz.prog.cellsOf 30=12:=by kernel_rfl
theorem boardFields:∃ f0 f1:Field,Tryz.prog.underlying 30=some (.struct #[f0,f1])∧f0.type=25∧f1.type=28∧f0.offset=0∧f1.offset=7 :=
 ⟨_,_,Tryz.underlying30,rfl,rfl,rfl,rfl⟩
set_option maxRecDepth 100000 in
/-- Five cells that read as a map. -/
theorem map_cells {H:Type} {enc:TypeId × Value→H} {W:World} {cs:List Value} {n:Nat} (hl:cs.length=5)
  (hf:∀ (j:Nat) (f:Field),(match Tryz.prog.underlying 28 with | some (.struct fs)=>fs | _=>#[])[j]?=some f→∃ c y,cs[j]?=some c∧DataW.trod enc Tryz.prog W 0 (fun _=>true) true n f.type [c]=some y) :
  ∃ (wd ht:Int) (t r e:Value) (lt lr ld:List Int),cs=[.int .i64 wd,.int .i64 ht,t,r,e]∧Reads W t r e lt lr ld:=by
 rw [Tryz.underlying28] at hf
 obtain⟨c0,y0,q0,h0⟩:=hf 0 _ rfl
 obtain⟨c1,y1,q1,h1⟩:=hf 1 _ rfl
 obtain⟨c2,y2,q2,h2⟩:=hf 2 _ rfl
 obtain⟨c3,y3,q3,h3⟩:=hf 3 _ rfl
 obtain⟨c4,y4,q4,h4⟩:=hf 4 _ rfl
 obtain rfl:=five hl q0 q1 q2 q3 q4
 obtain⟨a,e0,rfl,wa⟩:=DataW.trod_int Tryz.underlying3 h0
 obtain⟨b,e1,rfl,wb⟩:=DataW.trod_int Tryz.underlying3 h1
 simp only [List.cons.injEq,and_true] at e0 e1
 subst e0 e1
 obtain⟨lt,r1,r2,r3⟩:=rdB_of_trod h2
 obtain⟨lr,s1,s2,s3⟩:=rdB_of_trod h3
 obtain⟨ld,t1,t2,t3⟩:=rdB_of_trod h4
 exact⟨a,b,c2,c3,c4,lt,lr,ld,rfl,⟨r1,s1,t1,r2,s2,t2,r3,s3,t3⟩⟩
set_option maxRecDepth 100000 in
/-- Twelve cells that read as a board. -/
theorem board_cells {H:Type} {enc:TypeId × Value→H} {W:World} {cs:List Value} {n:Nat} {y:DataW H × List MemPlace} (hl:cs.length=12) (hf:DataW.trod enc Tryz.prog W 0 (fun _=>true) true n 30 cs=some y) :
  ∃ (At Ak:Option Addr) (nt nk ct ck:Nat) (l:List Ter) (m:List Knd) (a b c d e W' H':Int) (x r y:Value) (lt lr ld:List Int),cs=[.slice At nt ct,.slice Ak nk ck,.int .i64 a,.int .i64 b,.int .i64 c,.int .i64 d,.int .i64 e,.int .i64 W',.int .i64 H',x,r,y]∧BrdIn W At Ak nt nk l m x r y lt lr ld∧∀ x ∈ l,∀ z ∈ x.cost,-9223372036854775808≤z∧z≤9223372036854775807:=by
 obtain⟨f0,f1,hu,e0,e1,o0,o1⟩:=boardFields
 obtain⟨y0,y1,n',hx,hlen,u0,u1⟩:=trod_struct2 hu hf
 rw [e0,o0,cellsRul] at u0
 rw [e1,o1,cellsMap] at u1
 have l0:((cs.drop 0).take 7).length=7:=by simp;omega
 have l1:((cs.drop 7).take 5).length=5:=by simp;omega
 obtain⟨k0,h0⟩:=fields_of_trod Tryz.underlying25 (by kernel_rfl) rfl l0 u0
 obtain⟨k1,h1⟩:=fields_of_trod Tryz.underlying28 (by kernel_rfl) rfl l1 u1
 obtain⟨At,Ak,nt,nk,ct,ck,l,m,a,b,c,d,e,r0,r1,r2⟩:=rules_cells (n:=k0) l0 (by rw [Tryz.underlying25];exact h0)
 obtain⟨wd,ht,t,r,z,lt,lr,ld,q0,q1⟩:=map_cells (n:=k1) l1 (by rw [Tryz.underlying28];exact h1)
 refine⟨At,Ak,nt,nk,ct,ck,l,m,a,b,c,d,e,wd,ht,t,r,z,lt,lr,ld,?_,⟨r1,q1⟩,r2⟩
 have e5:(cs.drop 7).take 5=cs.drop 7:=List.take_of_length_le (by simp;omega)
 rw [e5] at q0
 rw [List.drop_zero] at r0
 rw [← List.take_append_drop 7 cs,r0,q0]
 rfl
set_option maxRecDepth 100000 in
/-- An argument of type Board. -/
theorem open_board {H:Type} {enc:TypeId × Value→H} {W:World} {base:Nat} {v:Value} {d:DataW H} {p:List MemPlace}
  (hv:Value.okWide Tryz.prog W .any base 30 v) (h:DataW.Trod enc Tryz.prog W 0 (fun _=>true) true 30 v d p) :
  ∃ (At Ak:Option Addr) (nt nk ct ck:Nat) (l:List Ter) (m:List Knd) (a b c d e W' H':Int) (x r y:Value) (lt lr ld:List Int),v=bv (.slice At nt ct) (.slice Ak nk ck) a b c d e W' H' x r y∧BrdIn W At Ak nt nk l m x r y lt lr ld∧∀ x ∈ l,∀ z ∈ x.cost,-9223372036854775808≤z∧z≤9223372036854775807:=by
 obtain⟨⟨cs⟩,rfl,hsz⟩:=okWide_struct Tryz.underlying30 hv
 obtain⟨fuel,hf⟩:=h
 obtain⟨At,Ak,nt,nk,ct,ck,l,m,a,b,c,d,e,W',H',x,r,y,lt,lr,ld,e0,h1,h2⟩:=board_cells (cs:=cs) (hsz.trans cellsBrd) hf
 exact⟨At,Ak,nt,nk,ct,ck,l,m,a,b,c,d,e,W',H',x,r,y,lt,lr,ld,by rw [e0],h1,h2⟩
end Go.Proofs.YtacgknllagdkoaaGreatDoor
/-
 Marking the cells of slices of integers that the call owns with k, k+1, .., and finding the marks again.
-/
namespace Go.Proofs.YtacgknllagdkoaaGreatDoor
open Go.RowKit
theorem marks1_step (k0:Int) (xs:List Value) (t n:Nat) (hl:xs.length=n*1) (ht:t<n) :
  (marks k0 t++xs.drop t).set t (.int .i64 (k0+t))=marks k0 (t+1)++xs.drop (t+1):=by
 apply List.ext_getElem?
 intro j
 rw [List.getElem?_set]
 simp only [List.length_append,marks_length,List.length_drop]
 by_cases h1:t=j
 ·subst h1
  rw [if_pos rfl,if_pos (by omega),List.getElem?_append_left (by rw [marks_length];omega),marks_at _ _ _ (by omega)]
 ·rw [if_neg h1]
  by_cases h3:j<t
  ·rw [List.getElem?_append_left (by rw [marks_length];omega),List.getElem?_append_left (by rw [marks_length];omega),marks_at _ _ _ h3,marks_at _ _ _ (by omega)]
  ·rw [List.getElem?_append_right (by rw [marks_length];omega),List.getElem?_append_right (by rw [marks_length];omega),marks_length,marks_length,List.getElem?_drop,List.getElem?_drop]
   congr 1
   omega
theorem markIntS_own (v:Value) (n base:Nat) (k0:Int) (xs:List Value) (w:World) (h0:0≤k0) (h1:k0≤1000000000000000) (hn:n≤1048576) (hown:w.ownsRow base 3 1 v n xs) :
  Calls Tryz.prog 48 #[v,.int .i64 k0] w fun e w'=>e=.returned (.int .i64 (k0+n))∧w'.ownsRow base 3 1 v n (marks k0 n)∧w.grownBy w' v.ownBlock:=by
 rcases hown.2 with ⟨rfl,rfl⟩ | ⟨g,cap,cur,rfl,_⟩
 ·go_enter Tryz.func48,Tryz.ntmps48
  go_wp2_with fail
  go_loop [1,5] (fun k i=>k=.int .i64 k0∧i=.int .i64 0) (fun _ _=>0)
  case atStart=>exact⟨rfl,rfl⟩
  case round =>
   obtain⟨rfl,rfl⟩:=hrel
   go_wp2_with fail
   go_ret
   exact⟨ret_int (by simp),World.ownsRow_nil _ _ _ _,World.grownBy.refl w _⟩
 ·have hl:xs.length=n*1:=hown.1
  have HL:=Lib.hid hl
  clear hl
  go_enter Tryz.func48,Tryz.ntmps48
  go_wp2_with fail
  go_loopw [1,5] (fun kk i wr=>∃ t:Nat,t≤n∧i=.int .i64 t∧kk=.int .i64 (k0+t)∧wr.ownsRow base 3 1 (.slice (some ⟨g,0,none⟩) n cap) n (marks k0 t++xs.drop t)∧w.grownBy wr (some g)) (fun _ i _=>n - (intOf i).toNat)
  case atStart=>exact⟨0,by omega,rfl,by simp,by simpa [marks] using hown,World.grownBy.refl w _⟩
  case round =>
   obtain⟨t,ht,rfl,rfl,ho,hg⟩:=hrel
   by_cases hlt:t<n
   ·have hlt':(t:Int)<n:=by omega
    have hlen:(marks k0 t++xs.drop t).length=n*1:=ho.1
    obtain⟨u0,hu0⟩:∃ u,wr.cell? ⟨g,t,none⟩=some u:=⟨_,(ho.cellAt t (by omega)).trans (List.getElem?_eq_getElem (by omega))⟩
    have f0:=ho.frozenAt t
    clear hlen
    go_wp2_with fail
    go_roundw
    case rel =>
     obtain⟨o1,g1⟩:=ho.stored t (.int .i64 (k0+t))
     refine⟨t+1,by omega,by go_num,by go_num,?_,hg.trans g1⟩
     rw [← marks1_step k0 xs t n HL.out hlt]
     exact o1
    case measure=>simp [intOf];omega
   ·obtain rfl:t=n:=by omega
    go_wp2_with fail
    go_ret
    refine⟨rfl,?_,hg⟩
    have e:xs.drop t=[]:=List.drop_of_length_le (by rw [HL.out];omega)
    rw [e,List.append_nil] at ho
    exact ho
theorem heldIntS_own (v:Value) (n base:Nat) (k0:Int) (w:World) (h0:0≤k0) (h1:k0≤1000000000000000) (hn:n≤1048576) (hown:w.ownsRow base 3 1 v n (marks k0 n)) :
  Calls Tryz.prog 49 #[v,.int .i64 k0] w fun e w'=>e=.returned (.int .i64 (k0+n))∧Kp w w':=by
 rcases hown.2 with ⟨rfl,rfl⟩ | ⟨g,cap,cur,rfl,_⟩
 ·go_enter Tryz.func49,Tryz.ntmps49
  go_wp2_with fail
  go_loop [1,5] (fun k i=>k=.int .i64 k0∧i=.int .i64 0) (fun _ _=>0)
  case atStart=>exact⟨rfl,rfl⟩
  case round =>
   obtain⟨rfl,rfl⟩:=hrel
   go_wp2_with fail
   go_ret
   exact⟨ret_int (by simp),Kp.refl _⟩
 ·go_enter Tryz.func49,Tryz.ntmps49
  go_wp2_with fail
  go_loopw [1,5] (fun kk i wr=>∃ t:Nat,t≤n∧i=.int .i64 t∧kk=.int .i64 (k0+t)∧Kp w wr) (fun _ i _=>n - (intOf i).toNat)
  case atStart=>exact⟨0,by omega,rfl,by simp,Kp.refl _⟩
  case round =>
   obtain⟨t,ht,rfl,rfl,kr⟩:=hrel
   by_cases hlt:t<n
   ·have hlt':(t:Int)<n:=by omega
    have c0:wr.cell? ⟨g,t,none⟩=some (.int .i64 (k0+t)):=kr.cell ((hown.cellAt t (by omega)).trans (marks_at _ _ _ (by omega)))
    have hne:((k0+(t:Int)) != (k0+(t:Int)))=false:=by simp
    go_wp2_with fail
    go_roundw
    case rel=>exact⟨t+1,by omega,by go_num,by go_num,kr⟩
    case measure=>simp [intOf];omega
   ·obtain rfl:t=n:=by omega
    go_wp2_with fail
    go_ret
    exact⟨rfl,kr⟩
theorem OwnI.block' {w:World} {base:Nat} {v:Value} {l:List Int} (h:OwnI w base v l) (g:Nat) (hg:w.heap.size≤g):v.ownBlock ≠ some g:=fun e=>by
 have:=(World.ownsRow.lt h g e).2
 omega
theorem apart_ne {x y:Value} (h:∀ g,x.ownBlock=some g→y.ownBlock ≠ some g):y.ownBlock=none∨y.ownBlock ≠ x.ownBlock:=by
 cases hy:y.ownBlock
 ·exact .inl rfl
 ·rename_i g
  exact .inr fun e=>h g e.symm hy
end Go.Proofs.YtacgknllagdkoaaGreatDoor
/-
 Marking the cells of slices of integers that the call owns with k, k+1, .., and finding the marks again; the same for the three lists of a map.
-/
namespace Go.Proofs.YtacgknllagdkoaaGreatDoor
open Go.RowKit
/-- The three lists of a map, marked one behind the other. -/
structure Marks3 (w:World) (base:Nat) (t r d:Value) (nt nr nd:Nat):Prop where
 ot:w.ownsRow base 3 1 t nt (marks 1 nt)
 or:w.ownsRow base 3 1 r nr (marks (1+nt) nr)
 od:w.ownsRow base 3 1 d nd (marks (1+nt+nr) nd)
end Go.Proofs.YtacgknllagdkoaaGreatDoor
/-
 Worlds that differ in some blocks alone: below a number, and from another one on, all is as it was.
-/
namespace Go.Proofs.YtacgknllagdkoaaGreatDoor
open Go.RowKit
/-- Below lo, and from hi on, all that lay there is as it was. -/
def Mk (lo hi:Nat) (w w':World):Prop:=Below lo w w'∧∀ b,hi≤b→b<w.heap.size→w'.heap[b]?=w.heap[b]?
theorem Mk.refl (lo hi:Nat) (w:World):Mk lo hi w w:=⟨Below.refl _ _,fun _ _ _=>rfl⟩
theorem Mk.trans {lo hi:Nat} {a b c:World} (h:Mk lo hi a b) (k:Mk lo hi b c):Mk lo hi a c :=
 ⟨Below.trans h.1 k.1,fun n hn hs=>(k.2 n hn (Nat.lt_of_lt_of_le hs h.1.size)).trans (h.2 n hn hs)⟩
theorem Mk.of_kp {lo hi:Nat} {w w':World} (k:Kp w w') (h:lo≤w.heap.size):Mk lo hi w w':=⟨Below.mono k h,fun b _ hb=>k.block b hb⟩
theorem Mk.set {lo hi:Nat} {a w:World} (h:Mk lo hi a w) {b j:Nat} (h1:lo≤b) (h2:b<hi) (u:Value):Mk lo hi a (w.setCell ⟨b,j,none⟩ u) :=
 ⟨Below.setCell h.1 h1 u,fun n hn hs=>(Below.heap_setCell w ⟨b,j,none⟩ u n (by simp only;omega)).trans (h.2 n hn hs)⟩
theorem Mk.grown {lo hi:Nat} {a w w':World} {row:Option Nat} (h:Mk lo hi a w) (g:w.grownBy w' row) (hs:lo≤w.heap.size) (hr:∀ k,row=some k→lo≤k∧k<hi):Mk lo hi a w' :=
 ⟨Below.grown h.1 g hs (fun k e=>(hr k e).1),fun n hn hz=>((let ⟨_,_,_,_,gb⟩:=g;gb) n (Nat.lt_of_lt_of_le hz h.1.size) (fun e=>by have:=(hr n e.symm).2;omega)).trans (h.2 n hn hz)⟩
theorem Mk.kp {lo hi:Nat} {w w' W0:World} (h:Mk lo hi w w') (k:Kp W0 w) (hb:W0.heap.size≤lo):Kp W0 w':=Below.trans k (Below.mono h.1 hb)
theorem Mk.own {lo hi base sz n:Nat} {w w':World} {e:TypeId} {v:Value} {xs:List Value} (h:Mk lo hi w w') (o:w.ownsRow base e sz v n xs) (hb:∀ g,v.ownBlock=some g→hi≤g):w'.ownsRow base e sz v n xs:=by
 obtain⟨hl,hv⟩:=o
 refine⟨hl,?_⟩
 rcases hv with h0 | ⟨g,cap,cur,rfl,h1,h2,h3⟩
 ·exact .inl h0
 ·have hg:g<w.heap.size:=(Array.getElem?_eq_some_iff.1 h2).1
  exact .inr ⟨g,cap,cur,rfl,h1,by rw [h.2 g (hb g rfl) hg];exact h2,h3⟩
end Go.Proofs.YtacgknllagdkoaaGreatDoor
/-
 The laws' marking of copied boards: only the copy's own blocks are written, and the number handed back is not less. (What the marks are is not said here.)
-/
namespace Go.Proofs.YtacgknllagdkoaaGreatDoor
open Go.RowKit
set_option maxRecDepth 100000 in
set_option maxHeartbeats 1000000 in
theorem markText_any (k:Nat) (w:World) (hk:k≤1000000000000000) :
  Calls Tryz.prog 200 #[.int .i64 (k:Int)] w fun e w'=>∃ s,e=.returned (.string s)∧Kp w w':=by
 by_cases h0:k=0
 ·subst h0
  go_enter Tryz.func200,Tryz.ntmps200
  go_wp2_with fail
  go_ret
  exact⟨_,rfl,Kp.refl _⟩
 ·have h1:¬ (k:Int)≤0:=by omega
  go_enter Tryz.func200,Tryz.ntmps200
  go_wp2_with fail
  go_loopw [0,3] (fun kk s wr=>∃ (q:Nat) (x:ByteArray),kk=.int .i64 q∧s=.string x∧q+x.size≤k∧Kp w wr) (fun kk _ _=>(intOf kk).toNat)
  case atStart=>exact⟨k,ByteArray.empty,rfl,rfl,by simp,Kp.refl _⟩
  case round =>
   obtain⟨q,x,rfl,rfl,hq,kr⟩:=hrel
   by_cases hq0:0<q
   ·have hq1:(0:Int)<q:=by omega
    have hd1:0≤(q:Int) % 10:=by omega
    have hd2:(q:Int) % 10≤9:=by omega
    have hconv:=run_convert_bytes_arg (P:=Tryz.prog) (wr.alloc (.cells #[.int .u8 (48+(q:Int) % 10)] 5)) 286 5 Tryz.underlying286 Tryz.underlying5 wr.heap.size 0 1 1 [48+(q:Int) % 10] rfl (fun i hi=>by
     obtain rfl:i=0:=by omega
     simp [go_sem]) 9 Tryz.underlying9
    have hsz:=strOfNums_size [48+(q:Int) % 10]
    generalize strOfNums [48+(q:Int) % 10]=z at hconv hsz
    go_wp2_with fail
    go_roundw
    case rel=>exact⟨q / 10,_,by go_num,rfl,by simp at hsz ⊢;omega,kr.alloc _⟩
    case measure=>simp [intOf];omega
   ·obtain rfl:q=0:=by omega
    go_wp2_with fail
    go_ret
    exact⟨_,rfl,kr⟩
theorem live_grown {w w':World} {base g n sz:Nat} {e:TypeId} {ys:List Value} {cap:Nat} (h:w.ownsRow base e sz (.slice (some ⟨g,0,none⟩) n cap) n ys) {row:Option Nat} (gr:w.grownBy w' row) (hne:some g ≠ row):w'.ownsRow base e sz (.slice (some ⟨g,0,none⟩) n cap) n ys :=
 World.ownsRow.kept h gr (.inr (fun e=>hne (by rw [← e];rfl)))
/-- What the marking of terrains needs of the terrains from the q-th on. -/
def Rest (w:World) (g q:Nat) (l:List Ter) (cs:List (Option Addr × Nat)) (ys:List Value):Prop :=
 ∀ (j:Nat) (x:Ter) (c:Option Addr × Nat),q≤j→l[j]?=some x→cs[j]?=some c→ys[j*5+1]?=some (.slice c.1 x.cost.length c.2)∧OwnI w (g+1) (.slice c.1 x.cost.length c.2) x.cost
theorem OwnI.kp_set {w w1:World} {base g j:Nat} {v:Value} {l:List Int} (h:OwnI w base v l) (k:Kp w w1) (hg:g<base) (u:Value):OwnI (w1.setCell ⟨g,j,none⟩ u) base v l:=by
 have h1:=h.keep k
 exact h1.far (h1.not hg) u
set_option maxRecDepth 100000 in
set_option maxHeartbeats 4000000 in
theorem markTerrainS_w (g n:Nat) (l:List Ter) (cs:List (Option Addr × Nat)) (ys:List Value) (k0:Int) (lo hi:Nat) (w:World) (h:OwnT w g n l cs ys) (hl:l.length=n) (hc:cs.length=n) (hn:n≤1048576) (hb:∀ x ∈ l,x.cost.length≤1048576) (hlo:lo≤g) (hg:g<hi)
  (hhi:∀ (j:Nat) (c:Option Addr × Nat) (x b:Nat),cs[j]?=some c→(Value.slice c.1 x c.2).ownBlock=some b→b<hi) (p0:0≤k0) (p1:k0≤100000000000000) :
  Calls Tryz.prog 158 #[.slice (some ⟨g,0,none⟩) n n,.int .i64 k0] w fun e w'=>∃ k',e=.returned (.int .i64 k')∧k0≤k'∧k'≤k0+1048580*(n:Int)∧Mk lo hi w w':=by
 have HN:=Lib.hid hl
 have HC:=Lib.hid hc
 have HB:=Lib.hid hb
 have HHI:=Lib.hid hhi
 have HAP:=Lib.hid h.apart
 have R0:=Lib.hid h.row
 have S0:Hid (Rest w g 0 l cs ys):=Lib.hid fun j x c _ hx hcj=>⟨(h.here j x c hx hcj).2.1,h.each j x c hx hcj⟩
 have hgw:g<w.heap.size:=(World.ownsRow.lt h.row g rfl).2
 clear h hl hc hb hhi
 go_enter Tryz.func158,Tryz.ntmps158
 go_wp2_with fail
 go_loopw [1,5] (fun kk i wr=>∃ (q:Nat) (k:Int) (ys:List Value),q≤n∧i=.int .i64 q∧kk=.int .i64 k∧k0≤k∧k≤k0+1048580*(q:Int)∧Hid (wr.ownsRow g 230 5 (.slice (some ⟨g,0,none⟩) n n) n ys)∧Hid (Rest wr g q l cs ys)∧Mk lo hi w wr∧w.heap.size≤wr.heap.size) (fun _ i _=>n - (intOf i).toNat)
 case atStart=>exact⟨0,_,ys,by omega,rfl,rfl,by omega,by omega,R0,S0,Mk.refl _ _ _,Nat.le_refl _⟩
 case round =>
  clear R0 S0
  obtain⟨q,k,zs,hq,rfl,rfl,hk0,hk1,HR,HS,mk,hz⟩:=hrel
  by_cases hlt:q<n
  ·have hlt':(q:Int)<n:=by omega
   obtain⟨x,hx⟩:∃ x,l[q]?=some x:=⟨l[q]'(by have:=HN.out;omega),List.getElem?_eq_getElem _⟩
   obtain⟨c,hc⟩:∃ c,cs[q]?=some c:=⟨cs[q]'(by have:=HC.out;omega),List.getElem?_eq_getElem _⟩
   have hnc:=HB.out x (List.mem_of_getElem? hx)
   have HX:=Lib.hid hx
   have HCC:=Lib.hid hc
   have hrq:=HS.out q x c (Nat.le_refl _) hx hc
   obtain⟨Ac,cc⟩:=c
   simp only at hrq
   have HO:=Lib.hid hrq.2
   have HY:=Lib.hid hrq.1
   have HZ:Hid (zs.length=n*5):=Lib.hid HR.out.1
   have HBL:Hid (∀ b,(Value.slice Ac x.cost.length cc).ownBlock=some b→g+1≤b∧b<wr.heap.size∧b<hi):=Lib.hid fun b hb=>⟨(World.ownsRow.lt HO.out b hb).1,(World.ownsRow.lt HO.out b hb).2,HHI.out q _ _ b hc hb⟩
   obtain⟨kn,rfl⟩:∃ kn:Nat,k=kn:=⟨k.toNat,by omega⟩
   generalize hcl:x.cost.length=nc at HO HY hnc HBL
   have HCL:=Lib.hid hcl
   obtain⟨⟨u0,b0⟩,f0⟩:=liveN HR.out (j:=q*5) (by omega)
   have hgr:g<wr.heap.size:=by omega
   clear hx hc hrq hcl
   go_wp2_with fail
   refine(markText_any kn _ (by omega)).mono ?_
   rintro e1 w1 ⟨s,rfl,k1⟩
   have b0':=k1.cell b0
   have R1:=Lib.hid (ownsRow_keep HR.out k1)
   have f0':=(liveN R1.out (j:=q*5) (by omega)).2
   have R2:=Lib.hid (R1.out.stored (q*5) (.string s)).1
   have O2:Hid ((w1.setCell ⟨g,q*5,none⟩ (.string s)).ownsRow (g+1) 3 1 (.slice Ac nc cc) nc (cellsI x.cost)):=Lib.hid (by
    have:=HO.out.kp_set k1 (g:=g) (j:=q*5) (by omega) (.string s)
    unfold OwnI at this
    rw [HCL.out] at this
    exact this)
   have c1:(w1.setCell ⟨g,q*5,none⟩ (.string s)).cell? ⟨g,q*5+1,none⟩=some (.slice Ac nc cc):=by
    refine(R2.out.cellAt (q*5+1) (by omega)).trans ?_
    rw [List.getElem?_set_ne (by omega)]
    exact HY.out
   have m1:Mk lo hi w (w1.setCell ⟨g,q*5,none⟩ (.string s)):=(mk.trans (Mk.of_kp k1 (by omega))).set hlo hg _
   have hz1:wr.heap.size≤(w1.setCell ⟨g,q*5,none⟩ (.string s)).heap.size:=by have:=k1.size;simpa using this
   clear b0 f0 R1
   go_wp2_with fail
   generalize hW:w1.setCell ⟨g,q*5,none⟩ (.string s)=W1 at *
   refine(markIntS_own _ _ (g+1) _ _ _ (by omega) (by omega) hnc O2.out).mono ?_
   rintro e2 w2 ⟨rfl,_,g2⟩
   have R3:=Lib.hid (live_grown R2.out g2 (fun e=>by have:=HBL.out g e.symm;omega))
   have m2:Mk lo hi w w2:=m1.grown g2 (by omega) (fun b e=>by have:=HBL.out b e;omega)
   have hz2:W1.heap.size≤w2.heap.size:=g2.size
   have S2:Hid (∀ (j:Nat) (y:Ter) (d:Option Addr × Nat),q+1≤j→l[j]?=some y→cs[j]?=some d→OwnI w2 (g+1) (.slice d.1 y.cost.length d.2) y.cost):=Lib.hid fun j y d hj hy hd=>by
    have h1:=(HS.out j y d (by omega) hy hd).2
    have h2:OwnI W1 (g+1) (.slice d.1 y.cost.length d.2) y.cost:=by
     rw [← hW]
     exact h1.kp_set k1 (by omega) _
    refine World.ownsRow.kept h2 g2 ?_
    cases hb:(Value.slice d.1 y.cost.length d.2).ownBlock
    ·exact .inl rfl
    ·rename_i b
     refine .inr fun e=>?_
     exact HAP.out q j _ d (by omega) HCC.out hd nc y.cost.length b e.symm hb
   obtain⟨⟨u2,b2⟩,f2⟩:=liveN R3.out (j:=q*5+2) (by omega)
   obtain⟨⟨u3,b3⟩,f3⟩:=liveN R3.out (j:=q*5+3) (by omega)
   obtain⟨⟨u4,b4⟩,f4⟩:=liveN R3.out (j:=q*5+4) (by omega)
   have g2s:=g2
   clear g2 hW O2 R2 c1 m1 b0' f0' k1
   go_wp2_with fail
   go_roundw
   case rel =>
    refine⟨q+1,_,_,by omega,by go_num,rfl,by omega,by omega,Lib.hid (((R3.out.stored (q*5+2) _).1.stored (q*5+3) _).1.stored (q*5+4) _).1,Lib.hid ?_,((m2.set hlo hg _).set hlo hg _).set hlo hg _,by simp;omega⟩
    intro j y d hj hy hd
    have h1:=(HS.out j y d (by omega) hy hd).1
    refine⟨?_,?_⟩
    ·rw [List.getElem?_set_ne (by omega),List.getElem?_set_ne (by omega),List.getElem?_set_ne (by omega),List.getElem?_set_ne (by omega)]
     exact h1
    ·have h2:=S2.out j y d hj hy hd
     have n1:=h2.not (g:=g) (by omega)
     exact((h2.far n1 _).far n1 _).far n1 _
   case measure=>simp [intOf];omega
  ·obtain rfl:q=n:=by omega
   go_wp2_with fail
   go_ret
   exact⟨_,rfl,hk0,hk1,mk⟩
end Go.Proofs.YtacgknllagdkoaaGreatDoor
