/-
 A state copied: by the program (slices.Clone) and by the reference (append to an empty list); the copy owns its memory. Nothing that was there is changed.
-/
import Derived.Test.YtacgknllagdkoaaGreatDoorClU
import Derived.Test.YtacgknllagdkoaaGreatDoorQa
import Derived.Test.YtacgknllagdkoaaGreatDoorQa
namespace Go.Proofs.YtacgknllagdkoaaGreatDoor
open Go.RowKit
theorem step_append_ownU {P:Program} {o:Oper} {a:Act} {w:World} {K:Act→World→Prop} {Q:Exit→Act→World→Prop} (s x:Operand) (t:TypeId)
  (ho:o.op=.call { callee:=.builtin .append,args:=#[s,x],argTypes:=#[t,t] })
  (base:Nat) (e:TypeId) (i:TypeInfo) (z:Value) (size bytes:Nat) (ht:P.underlying t=some (.slice e)) (hi:P.info? e=some i) (hz:i.zero=some z)
  (hsize:i.size=size) (hby:i.bytes=bytes) (hzs:z.cells.size=size) (hsz:0<size)
  (v:Value) (n:Nat) (xs:List Value) (hs:a.eval s=v) (hown:w.ownsRow base e size v n xs)
  (ad:Addr) (m c:Nat) (news:List Value) (hx:a.eval x=.slice (some ad) m c) (hl:news.length=m*size) (hnews:∀ j u,news[j]?=some u→w.cell? (ad.add j)=some u) (h1:∀ u ∈ news,u.oneCell'=true)
  (h63:n+m≤maxLen) (hbytes:(n+m)*bytes≤140737488355328) (hbase:base≤w.heap.size)
  (h:∀ v' w',w'.ownsRow base e size v' (n+m) (xs++news)→w.grownBy w' v.ownBlock→K (a.put o.dst v') w'):Oper.wp P o a w K Q:=by
 obtain⟨v',w',hr,h2,h3,_⟩:=run_append_own (P:=P) (w:=w) base t o.type e i z size bytes ht hi hz hsize hby hzs hsz v n xs hown ad m c news hl hnews h1 h63 hbytes hbase
 unfold Oper.wp execOp
 simp only [ho,resolve,invoke,builtin,Sem.run_bind,Sem.run_pure,Result.andThen_ok,List.map_toArray,List.map_cons,List.map_nil,hs,hx,hr]
 exact h v' w' h2 h3
set_option maxRecDepth 100000 in
set_option maxHeartbeats 4000000 in
theorem copyState_any (T Z:Int) (g off n c:Nat) (l:List Uni) (w:World) (h:RdU w (.slice (some ⟨g,off,none⟩) n c) l) (hl:l.length=n) (hn:n≤1048576) :
  Calls Tryz.prog 107 #[sv T Z (.slice (some ⟨g,off,none⟩) n c)] w fun e w'=>∃ A' c',e=.returned (sv T Z (.slice A' n c'))∧OwnU w' w.heap.size (.slice A' n c') l∧Kp w w':=by
 have k0:Kp w ((w.alloc (.cells #[.int .i64 T,.int .i64 Z,.slice (some ⟨g,off,none⟩) n c] 51)).alloc (.cells #[.int .i64 0,.int .i64 0,.slice none 0 0] 51)):=((Kp.refl w).alloc _).alloc _
 have C:=Lib.hid (cloneU_any g off n c l _ (h.keep k0) hl hn)
 clear h hl
 go_enter Tryz.func107,Tryz.ntmps107
 go_wp2_with fail
 refine C.out.mono ?_
 rintro e1 w1 ⟨A',c',rfl,o1,k1⟩
 have L1:LivS w1 w.heap.size (.int .i64 T) (.int .i64 Z) (.slice (some ⟨g,off,none⟩) n c):=livS_keep k1 ⟨by simp [go_sem],by simp [go_sem],by simp [go_sem]⟩
 have M1:LivS w1 (w.heap.size+1) (.int .i64 0) (.int .i64 0) (.slice none 0 0):=livS_keep k1 ⟨by simp [go_sem],by simp [go_sem],by simp [go_sem]⟩
 have K1:Kp w w1:=k0.trans k1
 have O1:=Lib.hid (o1.base (b:=w.heap.size+2) (by simp <;> omega))
 clear k0 k1 o1
 go_wp2_with fail
 refine bodyPost_ret (v:=sv T Z (.slice A' n c')) (by simp [results,Tryz.results107,go_sem, *]) rfl ⟨_,_,rfl,?_,?_⟩
 ·have n0:=O1.out.not (g:=w.heap.size) (by omega)
  have n1:=O1.out.not (g:=w.heap.size+1) (by omega)
  exact((((O1.out.far n0 _).far n1 _).far n1 _).far n1 _).base (by omega)
 ·exact(((K1.setCell (by simp <;> omega) _).setCell (by simp <;> omega) _).setCell (by simp <;> omega) _).setCell (by simp <;> omega) _
set_option maxRecDepth 100000 in
set_option maxHeartbeats 4000000 in
theorem sOwn_any (T Z:Int) (g off n c:Nat) (l:List Uni) (w:World) (h:RdU w (.slice (some ⟨g,off,none⟩) n c) l) (hl:l.length=n) (hn:n≤1048576) :
  Calls Tryz.prog 162 #[sv T Z (.slice (some ⟨g,off,none⟩) n c)] w fun e w'=>∃ A' c',e=.returned (sv T Z (.slice A' n c'))∧OwnU w' w.heap.size (.slice A' n c') l∧Kp w w':=by
 obtain⟨j0,hj0,hz0,hs0,hb0⟩:=info_parts infoUnit
 have k0:Kp w ((w.alloc (.cells #[.int .i64 T,.int .i64 Z,.slice (some ⟨g,off,none⟩) n c] 51)).alloc (.cells #[.int .i64 0,.int .i64 0,.slice none 0 0] 51)):=((Kp.refl w).alloc _).alloc _
 have HL:=Lib.hid hl
 have HR:=Lib.hid h
 have s0:ce3 ((w.alloc (.cells #[.int .i64 T,.int .i64 Z,.slice (some ⟨g,off,none⟩) n c] 51)).alloc (.cells #[.int .i64 0,.int .i64 0,.slice none 0 0] 51)) (w.heap.size) (.int .i64 T) (.int .i64 Z) (.slice (some ⟨g,off,none⟩) n c):=⟨by simp [go_sem],by simp [go_sem],by simp [go_sem]⟩
 have L0:LivS ((w.alloc (.cells #[.int .i64 T,.int .i64 Z,.slice (some ⟨g,off,none⟩) n c] 51)).alloc (.cells #[.int .i64 0,.int .i64 0,.slice none 0 0] 51)) (w.heap.size+1) (.int .i64 0) (.int .i64 0) (.slice none 0 0):=⟨by simp [go_sem],by simp [go_sem],by simp [go_sem]⟩
 have hz:((w.alloc (.cells #[.int .i64 T,.int .i64 Z,.slice (some ⟨g,off,none⟩) n c] 51)).alloc (.cells #[.int .i64 0,.int .i64 0,.slice none 0 0] 51)).heap.size=w.heap.size+2:=by simp
 clear h hl
 go_enter Tryz.func162,Tryz.ntmps162
 go_wp2_with fail
 generalize ((w.alloc (.cells #[.int .i64 T,.int .i64 Z,.slice (some ⟨g,off,none⟩) n c] 51)).alloc (.cells #[.int .i64 0,.int .i64 0,.slice none 0 0] 51))=W0 at *
 have s1:ce3 (W0.drew) (w.heap.size) (.int .i64 T) (.int .i64 Z) (.slice (some ⟨g,off,none⟩) n c):=s0
 have L1:LivS W0.drew (w.heap.size+1) (.int .i64 0) (.int .i64 0) (.slice none 0 0):=L0
 have K1:Kp w W0.drew:=k0.drew
 have hz1:W0.drew.heap.size=w.heap.size+2:=hz
 refine wp_region_held_drew (S:=fun w'=>ce3 w' (w.heap.size) (.int .i64 T) (.int .i64 Z) (.slice (some ⟨g,off,none⟩) n c)) (by kernel_rfl) ?_ (fun hHeld=>?_)
 ·exact s1
 generalize W0.drew=V at *
 refine tk 0 ⟨some 3,_,_,_,_,_⟩ ?_ rfl (by kernel_rfl) (fun _ _ _ h=>h) (by rfl) ?_ (by assumption) ?_
 rotate_left
 ·intro w hSw;(try dsimp only at hSw);go_simp;(all_goals with_reducible rfl)
 simp only [Act.put,sA,sB,sC]
 refine tk 1 ⟨some 4,_,_,_,_,_⟩ ?_ rfl (by kernel_rfl) (fun _ _ _ h=>h) (by rfl) ?_ (by assumption) ?_
 rotate_left
 ·intro w hSw;(try dsimp only at hSw);go_simp;(all_goals with_reducible rfl)
 simp only [Act.put,sA,sB,sC]
 refine tk 2 ⟨some 5,_,_,_,_,_⟩ ?_ rfl (by kernel_rfl) (fun _ _ _ h=>h) (by rfl) ?_ (by assumption) ?_
 rotate_left
 ·intro w hSw;(try dsimp only at hSw);go_simp;(all_goals with_reducible rfl)
 simp only [Act.put,sA,sB,sC]
 refine tk 3 ⟨some 6,_,_,_,_,_⟩ ?_ rfl (by kernel_rfl) (fun _ _ _ h=>h) (by rfl) ?_ (by assumption) ?_
 rotate_left
 ·intro w hSw;(try dsimp only at hSw);go_simp;(all_goals with_reducible rfl)
 simp only [Act.put,sA,sB,sC]
 refine tk 5 ⟨some 8,_,_,_,_,_⟩ ?_ rfl (by kernel_rfl) (fun _ _ _ h=>h) (by rfl) ?_ (by assumption) ?_
 rotate_left
 ·intro w hSw;(try dsimp only at hSw);go_simp;(all_goals with_reducible rfl)
 simp only [Act.put,sA,sB,sC]
 refine tk 6 ⟨some 9,_,_,_,_,_⟩ ?_ rfl (by kernel_rfl) (fun _ _ _ h=>h) (by rfl) ?_ (by assumption) ?_
 rotate_left
 ·intro w hSw;(try dsimp only at hSw);go_simp;(all_goals with_reducible rfl)
 simp only [Act.put,sA,sB,sC]
 refine wpAnyH_ready (rs:=[4]) (by kernel_rfl) (by simp) ?_
 refine AllReadyH.cons (o:=⟨some 7,_,_,_,_,_⟩) rfl (fun K hK=>?_) AllReadyH.nil
 go_simp
 go_wp2_with fail
 have kb:Kp V (V.alloc (.cells #[] 152)):=(Kp.refl V).alloc _
 have s2:ce3 (V.alloc (.cells #[] 152)) (w.heap.size) (.int .i64 T) (.int .i64 Z) (.slice (some ⟨g,off,none⟩) n c):=⟨kb.cell s1.1,kb.cell s1.2.1,kb.cell s1.2.2⟩
 refine hK.out _ _ ?_ (fun hHeld=>?_)
 ·exact s2
 clear hK K
 try simp only [Act.put,sA,sB,sC]
 have own0:Hid ((V.alloc (.cells #[] 152)).ownsRow (w.heap.size+2) 152 4 (.slice (some ⟨w.heap.size+2,0,none⟩) 0 0) 0 []):=Lib.hid (by
  rw [← hz1]
  exact World.ownsRow_lit V _ 0 (Nat.le_refl _) (by decide) rfl)
 have HC:=Lib.hid (rdU_cells (HR.out.keep (K1.trans kb)))
 refine wpAnyH_ready (rs:=[7]) (by kernel_rfl) (by simp) ?_
 refine AllReadyH.cons (o:=⟨some 10,_,_,_,_,_⟩) rfl (fun K hK=>?_) AllReadyH.nil
 rw [if_pos (by rfl)]
 refine step_append_ownU (.tmp 7) (.tmp 9) 49 rfl (w.heap.size+2) 152 j0 (ux 0 0 0 0) 4 32 Tryz.underlying49 hj0 hz0 hs0 hb0 rfl (by decide) (.slice (some ⟨w.heap.size+2,0,none⟩) 0 0) 0 [] rfl own0.out ⟨g,off,none⟩ n c (cellsU l) rfl (by rw [cellsU_length,HL.out]) HC.out (cellsU_one l) (by simp only [maxLen];omega) (by omega) (by simp;omega) ?_
 intro v' w3 hown2 hgrow2
 have K3:Kp V w3:=kb.grown hgrow2 (fun k e=>by have h9:w.heap.size+2=k:=Option.some.inj e;omega)
 have O3:OwnU w3 (w.heap.size+2) v' l:=by
  rw [Nat.zero_add,List.nil_append] at hown2
  unfold OwnU
  rw [HL.out]
  exact hown2
 obtain⟨A',c',hv⟩:=O3.slice
 rw [HL.out] at hv
 subst hv
 have s3:ce3 w3 (w.heap.size) (.int .i64 T) (.int .i64 Z) (.slice (some ⟨g,off,none⟩) n c):=⟨K3.cell s1.1,K3.cell s1.2.1,K3.cell s1.2.2⟩
 have L3:=livS_keep K3 L1
 have Kw:Kp w w3:=K1.trans K3
 have OO:=Lib.hid O3
 clear hown2 hgrow2 K3 O3 own0 HC kb s2 L1 L0 s1 s0
 refine hK.out _ _ ?_ (fun hHeld=>?_)
 ·exact s3
 clear hK K
 try simp only [Act.put,sA,sB,sC]
 refine tk 8 ⟨some 11,_,_,_,_,_⟩ ?_ rfl (by kernel_rfl) (fun _ _ _ h=>h) (by rfl) ?_ (by assumption) ?_
 rotate_left
 ·intro w hSw;(try dsimp only at hSw);go_simp;(all_goals with_reducible rfl)
 simp only [Act.put,sA,sB,sC]
 refine wpAnyH_ready (rs:=[9]) (by kernel_rfl) (by simp) ?_
 refine AllReadyH.cons (o:=⟨none,_,_,_,_,_⟩) rfl (fun K hK=>?_) AllReadyH.nil
 go_simp
 go_wp2_with fail
 refine hK.out _ _ ?_ (fun hHeld=>?_)
 ·exact⟨by simp [go_sem, *],by simp [go_sem, *],by simp [go_sem, *]⟩
 clear hK K
 try simp only [Act.put,sA,sB,sC]
 refine wpAnyH_done (by kernel_rfl) ?_ _
 go_wp2_with fail
 refine bodyPost_ret (v:=sv T Z (.slice A' n c')) (by simp [results,Tryz.results162,go_sem, *]) rfl ⟨_,_,rfl,?_,?_⟩
 ·have n1:=OO.out.not (g:=w.heap.size+1) (by omega)
  exact(((OO.out.far n1 _).far n1 _).far n1 _).base (by omega)
 ·exact((Kw.setCell (by simp <;> omega) _).setCell (by simp <;> omega) _).setCell (by simp <;> omega) _
end Go.Proofs.YtacgknllagdkoaaGreatDoor
