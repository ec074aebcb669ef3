/-
 The code of an order, of the reference. Nothing that was there is changed.
-/
import Derived.Test.YtacgknllagdkoaaGreatDoorOrT1
import Derived.Test.YtacgknllagdkoaaGreatDoorOrT2
import Derived.StillTailTactics
import Derived.Deep.Cut
import Derived.Maps.AppendAt
import Derived.Test.YtacgknllagdkoaaGreatDoorQa
import Derived.Test.YtacgknllagdkoaaGreatDoorQa
namespace Go.Proofs.YtacgknllagdkoaaGreatDoor
open Go.RowKit
set_option maxRecDepth 100000 in
set_option maxHeartbeats 4000000 in
theorem oFault_yes (At:Option Addr) (nt nk ct ck:Nat) (l:List Ter) (m:List Knd) (a b c d e W H:Int) (x r y:Value) (lt lr ld:List Int) (T Z:Int) (us:List Uni) (k j:Nat) (sx ax tx:Int) (gu ou N cp gk ok':Nat) (sd at' mv:Int) (v:Value) (p:List Int) (w:World) (hB:BrdAt w At (some ⟨gk,ok',none⟩) nt nk l m x r y lt lr ld) (hS:StaAt w (.slice (some ⟨gu,ou,none⟩) N cp) us) (hok:brdOk ⟨l,m,a,b,c,d,e⟩ W H lt lr ld=true) (hw:Z=0∨Z=1∨Z=2) (hp:RdI w v p) (hl:p.length≤1048576) (hk:k<N) (hj:j<m.length) (hx:onI W H ax=true) (q:w.cell? ⟨gu,ou+k*4,none⟩=some (.int .i64 sx)∧w.cell? ⟨gu,ou+k*4+1,none⟩=some (.int .i64 (j:Int))∧w.cell? ⟨gu,ou+k*4+2,none⟩=some (.int .i64 ax)∧w.cell? ⟨gu,ou+k*4+3,none⟩=some (.int .i64 tx)) (hmc:w.cell? ⟨gk,ok'+j*6+2,none⟩=some (.int .i64 mv)) (ha:∀ z ∈ us,z.a=-1∨0≤z.a) (hg:plcB us sd (k:Int)=true) :
  Calls Tryz.prog 64 #[bv (.slice At nt ct) (.slice (some ⟨gk,ok',none⟩) nk ck) a b c d e W H x r y,sv T Z (.slice (some ⟨gu,ou,none⟩) N cp),.int .i64 sd,.agg #[.int .i64 (k:Int),v,.int .i64 at']] w fun e' w'=>e'=.returned (.int .i64 (ordR (stp l lt lr ld W H b c j Z) W H mv ax p at'))∧Kp w w':=by
 cases hgo:goB (stp l lt lr ld W H b c j Z) W ax p
 ·have e9:ordR (stp l lt lr ld W H b c j Z) W H mv ax p at'=3:=by unfold ordR;rw [hgo,if_neg (by simp)]
  rw [e9]
  exact oFault_ya At nt nk ct ck l m a b c d e W H x r y lt lr ld T Z us k j sx ax tx gu ou N cp gk ok' sd at' mv v p w hB hS hok hw hp hl hk hj hx q hmc ha hg hgo
 ·by_cases hmo:mv<sumL (cstP (stp l lt lr ld W H b c j Z) W ax p)
  ·have e9:ordR (stp l lt lr ld W H b c j Z) W H mv ax p at'=4:=by unfold ordR;rw [hgo,if_pos rfl,if_pos hmo]
   rw [e9]
   exact oFault_yb At nt nk ct ck l m a b c d e W H x r y lt lr ld T Z us k j sx ax tx gu ou N cp gk ok' sd at' mv v p w hB hS hok hw hp hl hk hj hx q hmc ha hg hgo hmo
  ·by_cases hat:at'=-1
   ·have e9:ordR (stp l lt lr ld W H b c j Z) W H mv ax p at'=0:=by unfold ordR;rw [hgo,if_pos rfl,if_neg hmo,if_pos (by simp [attB,hat])]
    rw [e9]
    exact oFault_yc At nt nk ct ck l m a b c d e W H x r y lt lr ld T Z us k j sx ax tx gu ou N cp gk ok' sd at' mv v p w hB hS hok hw hp hl hk hj hx q hmc ha hg hgo hmo hat
   ·have e9:ordR (stp l lt lr ld W H b c j Z) W H mv ax p at'=(if hasB (ints (nbT W H (endP W ax p).toNat 6)) at'=true then 0 else 5):=by
     unfold ordR
     rw [hgo,if_pos rfl,if_neg hmo]
     unfold attB nebB
     rw [decide_eq_false hat,Bool.false_or]
    rw [e9]
    exact oFault_yd At nt nk ct ck l m a b c d e W H x r y lt lr ld T Z us k j sx ax tx gu ou N cp gk ok' sd at' mv v p w hB hS hok hw hp hl hk hj hx q hmc ha hg hgo hmo hat
set_option maxRecDepth 100000 in
set_option maxHeartbeats 4000000 in
theorem oFault_any (At Ak:Option Addr) (nt nk ct ck:Nat) (l:List Ter) (m:List Knd) (a b c d e W H:Int) (x r y:Value) (lt lr ld:List Int) (T Z:Int) (u:Value) (us:List Uni) (sd un at':Int) (v:Value) (p:List Int) (w:World) (hB:BrdAt w At Ak nt nk l m x r y lt lr ld) (hS:StaAt w u us) (hok:brdOk ⟨l,m,a,b,c,d,e⟩ W H lt lr ld=true) (hst:staOk ⟨l,m,a,b,c,d,e⟩ W H lt T Z us=true) (hp:RdI w v p) (hl:p.length≤1048576) :
  Calls Tryz.prog 64 #[bv (.slice At nt ct) (.slice Ak nk ck) a b c d e W H x r y,sv T Z u,.int .i64 sd,.agg #[.int .i64 un,v,.int .i64 at']] w fun e' w'=>e'=.returned (.int .i64 (ordC (stp l lt lr ld W H b c (unN us un).k.toNat Z) W H (mvN m (unN us un).k) (plcB us sd un) (unN us un).a p at'))∧Kp w w':=by
 have hae:∀ z ∈ us,z.a=-1∨0≤z.a:=fun z hz=>(uniOk_side ((staOk_parts hst).2.2.1 z hz)).2.2.2
 cases hg:plcB us sd un
 ·rw [ordC_no]
  exact oFault_no At Ak nt nk ct ck l m a b c d e W H x r y lt lr ld T Z u us sd un at' v w hS hae hg
 ·obtain⟨hun,_,ha⟩:=plc_parts hg
  obtain⟨k,rfl,hk,hz⟩:=unN_of hun
  have hu:uniOk l m W H lt (unN us (k:Int))=true:=(staOk_parts hst).2.2.1 _ (List.mem_of_getElem? hz)
  obtain⟨j,kd,e1,hj,hkd,hon⟩:=ord_kind hu ha
  have hw:=Int_three (staOk_parts hst).1.2
  obtain⟨A,cp,rfl,h⟩:=hS.rd
  obtain⟨gu,ou,rfl,hc⟩:=h (by omega)
  have q:=hc k _ hz
  have hnk:0<nk:=by have:=hB.R.rk.1;omega
  obtain⟨gk,ok',rfl,hck⟩:=hB.R.rk.2 hnk
  have hmc:=(hck j kd hkd).2.2.1
  have e2:mvN m (unN us (k:Int)).k=kd.mov:=by unfold mvN;rw [e1,Int.toNat_natCast,hkd];rfl
  unfold ordC
  rw [if_pos rfl,e2,e1,Int.toNat_natCast]
  generalize unN us (k:Int)=zz at q hon e1 ⊢
  obtain⟨sx,kx,ax,tx⟩:=zz
  simp only at q hon e1 ⊢
  subst e1
  exact oFault_yes At nt nk ct ck l m a b c d e W H x r y lt lr ld T Z us k j sx ax tx gu ou us.length cp gk ok' sd at' kd.mov v p w hB hS hok hw hp hl hk hj hon q hmc hae hg
end Go.Proofs.YtacgknllagdkoaaGreatDoor
