/-
 slices.Clone of a list of units: a new list of the same, in memory of its own. Nothing that was there is changed.
-/
import Derived.Lib.SliceRun
import Derived.Test.YtacgknllagdkoaaGreatDoorQa
import Derived.Test.YtacgknllagdkoaaGreatDoorQm
import Derived.Test.YtacgknllagdkoaaGreatDoorQa
namespace Go.Proofs.YtacgknllagdkoaaGreatDoor
open Go.RowKit
theorem add_litU (b o k:Nat):(⟨b,o,none⟩:Addr).add k=⟨b,o+k,none⟩:=add_none' b o k
theorem cellsU_one:∀ l:List Uni,∀ u ∈ cellsU l,u.oneCell'=true
 | [],u,h=>by cases h
 | x :: l,u,h=>by
  simp only [cellsU,List.mem_cons] at h
  rcases h with rfl | rfl | rfl | rfl | h
  ·rfl
  ·rfl
  ·rfl
  ·rfl
  ·exact cellsU_one l u h
theorem rdU_cells {w:World} {g off n c:Nat} {l:List Uni} (h:RdU w (.slice (some ⟨g,off,none⟩) n c) l):∀ (j:Nat) (u:Value),(cellsU l)[j]?=some u→w.cell? ((⟨g,off,none⟩:Addr).add j)=some u:=by
 intro j u hu
 have hj:=(List.getElem?_eq_some_iff.1 hu).1
 rw [cellsU_length] at hj
 obtain⟨A',c',e,hc⟩:=h
 obtain⟨g',off',e2,hcc⟩:=hc (by omega)
 subst e2
 simp only [Value.slice.injEq,Option.some.injEq,Addr.mk.injEq,and_true] at e
 obtain⟨⟨rfl,rfl⟩,_⟩:=e
 have hx:l[j / 4]?=some (l[j / 4]'(by omega)):=List.getElem?_eq_getElem _
 obtain⟨a0,a1,a2,a3⟩:=hcc _ _ hx
 obtain⟨b0,b1,b2,b3⟩:=cellsU_at l _ _ hx
 rw [add_litU]
 have hm:j % 4=0∨j % 4=1∨j % 4=2∨j % 4=3:=by omega
 rcases hm with hm | hm | hm | hm
 ·rw [show j=j / 4*4 from by omega] at hu ⊢
  rw [b0] at hu
  rw [← hu]
  exact a0
 ·rw [show j=j / 4*4+1 from by omega] at hu ⊢
  rw [b1] at hu
  rw [← hu]
  exact a1
 ·rw [show j=j / 4*4+2 from by omega] at hu ⊢
  rw [b2] at hu
  rw [← hu]
  exact a2
 ·rw [show j=j / 4*4+3 from by omega] at hu ⊢
  rw [b3] at hu
  rw [← hu]
  exact a3
set_option maxRecDepth 100000 in
set_option maxHeartbeats 4000000 in
theorem cloneU_any (g off n c:Nat) (l:List Uni) (w:World) (h:RdU w (.slice (some ⟨g,off,none⟩) n c) l) (hl:l.length=n) (hn:n≤1048576) :
  Calls Tryz.prog 166 #[.slice (some ⟨g,off,none⟩) n c] w fun e w'=>∃ A' c',e=.returned (.slice A' n c')∧OwnU w' w.heap.size (.slice A' n c') l∧Kp w w':=by
 have hnil:∀ (w:World) (a:Option Addr) (n c n' c':Nat),(binOp .eql 49 (.slice a n c) (.slice none n' c')).run Tryz.prog w=.ok (.bool a.isNone) w:=fun w a n c n' c'=>Lib.run_eql_slice_nil w 49 152 a n c n' c' Tryz.underlying49
 obtain⟨j0,hj0,hz0,hs0,hb0⟩:=info_parts infoUnit
 have HC:=Lib.hid (rdU_cells (h.keep ((Kp.refl w).alloc (.cells #[] 152))))
 have HL:=Lib.hid hl
 have own0:Hid ((w.alloc (.cells #[] 152)).ownsRow w.heap.size 152 4 (.slice (some ⟨w.heap.size,0,none⟩) 0 0) 0 []):=Lib.hid (World.ownsRow_lit w _ 0 (Nat.le_refl _) (by decide) rfl)
 clear h hl
 go_enter Tryz.func166,Tryz.ntmps166
 go_wp2_with (at_builtin;(refine wpList_append_own _ rfl (.tmp 5) (.tmp 6) 49 rfl w.heap.size 152 j0 (ux 0 0 0 0) 4 32 Tryz.underlying49 hj0 hz0 hs0 hb0 rfl (by decide) _ 0 [] rfl own0.out ⟨g,off,none⟩ n c (cellsU l) rfl (by rw [cellsU_length,HL.out]) HC.out (cellsU_one l) (by simp only [maxLen];omega) (by omega) (by simp) ?_;intro v' w3 hown2 hgrow2 hnil2;clear hnil2;have K3:Kp w w3:=((Kp.refl w).alloc _).grown hgrow2 (fun k e=>Nat.le_of_eq (Option.some.inj e));have O3:Hid (OwnU w3 w.heap.size v' l):=Lib.hid (by rw [Nat.zero_add,List.nil_append] at hown2;unfold OwnU;rw [HL.out];exact hown2);clear hown2 hgrow2))
 go_ret
 obtain⟨A',c',hv⟩:=O3.out.slice
 rw [HL.out] at hv
 exact⟨A',c',by rw [← hv];rfl,by rw [← hv];exact O3.out,K3⟩
end Go.Proofs.YtacgknllagdkoaaGreatDoor
