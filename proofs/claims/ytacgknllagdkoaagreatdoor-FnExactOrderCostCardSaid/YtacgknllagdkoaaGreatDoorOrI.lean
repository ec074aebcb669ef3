/-
  errors.Is of the program's faults: five errors of errors.New, each plain or wrapped in a sheetFault; the code of a fault. Nothing that was there is changed.
-/
import Derived.Test.YtacgknllagdkoaaGreatDoorOrF
import Derived.WalkKit
import Derived.LaidEql
import Derived.Stop.Asserts
import Derived.RowKitTokens
import Derived.Test.YtacgknllagdkoaaGreatDoorQa
import Derived.Test.YtacgknllagdkoaaGreatDoorQa
namespace Go.Proofs.YtacgknllagdkoaaGreatDoor
open Go.RowKit Go.Extern.Stop Go.Stop Go.Extern
def cmpE (t:TypeId):Sem Value:=do
  Go.Extern.Rtype.noPackHeld "Comparable" t
  pure (.bool (← typeInfo t).comparable)
theorem oi_typeOf (v:Value) (w:World):(Extern.ReflectliteType.typeOf #[.iface 325 v]).run Tryz.prog w=.ok (.iface 250 (.agg #[.pointer (some ⟨24,325,none⟩)])) w:=by kernel_rfl
theorem oi_comparable (w:World):(Extern.ReflectliteType.method cmpE #[.agg #[.pointer (some ⟨24,325,none⟩)]]).run Tryz.prog w=.ok (.bool true) w:=by kernel_rfl
theorem oi_method (v:Value) (w:World):(Go.method 458 250 v "Comparable").run Tryz.prog w=.ok (315,v) w:=by kernel_rfl
theorem oi_comp:(Tryz.prog.info? 325).map (·.comparable)=some true:=by kernel_rfl
theorem oi_size:(Tryz.prog.info? 346).map (·.size)=some 1:=by kernel_rfl
theorem oi_noIs (v:Value) (xT:TypeId) (w:World):(Instr.typeAssert (.iface 325 v) xT 273 true).run Tryz.prog w=.ok (.tuple #[.nilIface,.bool false]) w:=run_typeAssert_lacksB Tryz.underlying273 (by kernel_rfl) (by kernel_rfl) v xT w
theorem oi_noUn (v:Value) (xT:TypeId) (w:World):(Instr.typeAssert (.iface 325 v) xT 257 true).run Tryz.prog w=.ok (.tuple #[.nilIface,.bool false]) w:=run_typeAssert_lacksB Tryz.underlying257 (by kernel_rfl) (by kernel_rfl) v xT w
theorem oi_noUs (v:Value) (xT:TypeId) (w:World):(Instr.typeAssert (.iface 325 v) xT 259 true).run Tryz.prog w=.ok (.tuple #[.nilIface,.bool false]) w:=run_typeAssert_lacksB Tryz.underlying259 (by kernel_rfl) (by kernel_rfl) v xT w
theorem is_same (a:Addr) (w:World) :
    Calls Tryz.prog 136 #[.iface 325 (.pointer (some a)),.iface 325 (.pointer (some a))] w fun e w'=>e=.returned (.bool true)∧w'=w:=by
  obtain ⟨i,hi,hcmp⟩:=Option.map_eq_some_iff.1 oi_comp
  obtain ⟨j,hj,hjs⟩:=Option.map_eq_some_iff.1 oi_size
  have h8:=@run_callFunc_extern Tryz.prog 187 _ Extern.ReflectliteType.typeOf Tryz.func187 (by kernel_rfl) (by kernel_rfl) (by kernel_rfl) (by kernel_rfl)
  have h32:=@run_callFunc_extern Tryz.prog 315 _ (Extern.ReflectliteType.method cmpE) Tryz.func315 (by kernel_rfl) (by kernel_rfl) (by kernel_rfl) (by kernel_rfl)
  have tT:=oi_typeOf
  have cT:=oi_comparable
  have mR:=oi_method
  have heq:=run_eql_iface_ptr_same (P:=Tryz.prog) w a Tryz.underlying109 Tryz.underlying325 hi hcmp hj
  go_enter Tryz.func136,Tryz.ntmps136
  go_wp2
  refine wp_loop_rounds 1 ?_
  rw [rounds_succ]
  go_wp2
  go_ret
  exact ⟨rfl,rfl⟩
theorem is_nil (b:Addr) (w:World) :
    Calls Tryz.prog 136 #[.nilIface,.iface 325 (.pointer (some b))] w fun e w'=>e=.returned (.bool false)∧w'=w:=by
  have hn:=run_eql_iface_nil_left (P:=Tryz.prog) w 325 (.pointer (some b)) Tryz.underlying109
  go_enter Tryz.func136,Tryz.ntmps136
  go_wp2
  go_ret
  exact ⟨rfl,rfl⟩
theorem is_other (a b:Addr) (ca cb:Array Value) (ta tb:TypeId) (w:World) (hne:a ≠ b) (ha:w.heap[a.block]?=some (.cells ca ta (0,0))) (hb:w.heap[b.block]?=some (.cells cb tb (0,0))) :
    Calls Tryz.prog 136 #[.iface 325 (.pointer (some a)),.iface 325 (.pointer (some b))] w fun e w'=>e=.returned (.bool false)∧w'=w:=by
  obtain ⟨i,hi,hcmp⟩:=Option.map_eq_some_iff.1 oi_comp
  obtain ⟨j,hj,hjs⟩:=Option.map_eq_some_iff.1 oi_size
  have h8:=@run_callFunc_extern Tryz.prog 187 _ Extern.ReflectliteType.typeOf Tryz.func187 (by kernel_rfl) (by kernel_rfl) (by kernel_rfl) (by kernel_rfl)
  have h32:=@run_callFunc_extern Tryz.prog 315 _ (Extern.ReflectliteType.method cmpE) Tryz.func315 (by kernel_rfl) (by kernel_rfl) (by kernel_rfl) (by kernel_rfl)
  have tT:=oi_typeOf
  have cT:=oi_comparable
  have mR:=oi_method
  have nE:=oi_noIs
  have uE:=oi_noUn
  have vE:=oi_noUs
  have heq:=run_eql_iface_ptr_other (P:=Tryz.prog) w Tryz.underlying109 Tryz.underlying325 hi hcmp hj (by rw [hjs];decide) hne ha hb
  go_enter Tryz.func136,Tryz.ntmps136
  go_wp2
  refine wp_loop_rounds 1 ?_
  rw [rounds_succ]
  go_wp2
  go_ret
  exact ⟨rfl,rfl⟩
/-- The five faults lie apart, in memory of their own. -/
structure ErrD (w:World) (a1 a2 a3 a4 a5:Addr):Prop where
  r:(∃ c t,w.heap[a1.block]?=some (.cells c t (0,0)))∧(∃ c t,w.heap[a2.block]?=some (.cells c t (0,0)))∧(∃ c t,w.heap[a3.block]?=some (.cells c t (0,0)))∧(∃ c t,w.heap[a4.block]?=some (.cells c t (0,0)))∧(∃ c t,w.heap[a5.block]?=some (.cells c t (0,0)))
  ne:a1 ≠ a2∧a1 ≠ a3∧a1 ≠ a4∧a1 ≠ a5∧a2 ≠ a3∧a2 ≠ a4∧a2 ≠ a5∧a3 ≠ a4∧a3 ≠ a5∧a4 ≠ a5
theorem ErrD.keep {w w':World} {a1 a2 a3 a4 a5:Addr} (h:ErrD w a1 a2 a3 a4 a5) (k:Kp w w'):ErrD w' a1 a2 a3 a4 a5:=by
  have K:∀ b:Nat,(∃ c t,w.heap[b]?=some (.cells c t (0,0)))→∃ c t,w'.heap[b]?=some (.cells c t (0,0)):=fun b ⟨c,t,hb⟩=>⟨c,t,(k.block b (Array.getElem?_eq_some_iff.1 hb).1).trans hb⟩
  exact ⟨⟨K _ h.r.1,K _ h.r.2.1,K _ h.r.2.2.1,K _ h.r.2.2.2.1,K _ h.r.2.2.2.2⟩,h.ne⟩
theorem oi_other (a b:Addr) (w:World) (hne:a ≠ b) (ha:(∃ c t,w.heap[a.block]?=some (.cells c t (0,0)))) (hb:(∃ c t,w.heap[b.block]?=some (.cells c t (0,0)))) :
    Calls Tryz.prog 136 #[.iface 325 (.pointer (some a)),.iface 325 (.pointer (some b))] w fun e w'=>e=.returned (.bool false)∧w'=w:=by
  obtain ⟨c,t,h⟩:=ha
  obtain ⟨c',t',h'⟩:=hb
  exact is_other a b c c' t t' w hne h h'
set_option maxRecDepth 100000 in
theorem codeOf_0 (a1 a2 a3 a4 a5:Addr) (w:World) (he:Errs w a1 a2 a3 a4 a5) (_hd:ErrD w a1 a2 a3 a4 a5) :
    Calls Tryz.prog 70 #[.nilIface] w fun e w'=>e=.returned (.int .i64 0)∧w'=w:=by
  obtain ⟨c1,c2,c3,c4,c5⟩:=he
  have q1:=Lib.hid (is_nil a1 w)
  have q2:=Lib.hid (is_nil a2 w)
  have q3:=Lib.hid (is_nil a3 w)
  have q4:=Lib.hid (is_nil a4 w)
  have q5:=Lib.hid (is_nil a5 w)
  go_enter Tryz.func70,Tryz.ntmps70
  go_wp2_with fail
  refine q1.out.mono ?_
  rintro e1 w1 ⟨rfl,rfl⟩
  go_wp2_with fail
  refine q2.out.mono ?_
  rintro e2 w2 ⟨rfl,rfl⟩
  go_wp2_with fail
  refine q3.out.mono ?_
  rintro e3 w3 ⟨rfl,rfl⟩
  go_wp2_with fail
  refine q4.out.mono ?_
  rintro e4 w4 ⟨rfl,rfl⟩
  go_wp2_with fail
  refine q5.out.mono ?_
  rintro e5 w5 ⟨rfl,rfl⟩
  go_wp2_with fail
  go_ret
  exact ⟨rfl,rfl⟩
set_option maxRecDepth 100000 in
theorem codeOf_1 (a1 a2 a3 a4 a5:Addr) (w:World) (he:Errs w a1 a2 a3 a4 a5) (_hd:ErrD w a1 a2 a3 a4 a5) :
    Calls Tryz.prog 70 #[.iface 325 (.pointer (some a1))] w fun e w'=>e=.returned (.int .i64 1)∧w'=w:=by
  obtain ⟨c1,c2,c3,c4,c5⟩:=he
  have q1:=Lib.hid (is_same a1 w)
  go_enter Tryz.func70,Tryz.ntmps70
  go_wp2_with fail
  refine q1.out.mono ?_
  rintro e1 w1 ⟨rfl,rfl⟩
  go_wp2_with fail
  go_ret
  exact ⟨rfl,rfl⟩
set_option maxRecDepth 100000 in
theorem codeOf_2 (a1 a2 a3 a4 a5:Addr) (w:World) (he:Errs w a1 a2 a3 a4 a5) (hd:ErrD w a1 a2 a3 a4 a5) :
    Calls Tryz.prog 70 #[.iface 325 (.pointer (some a2))] w fun e w'=>e=.returned (.int .i64 2)∧w'=w:=by
  obtain ⟨c1,c2,c3,c4,c5⟩:=he
  have q1:=Lib.hid (oi_other a2 a1 w (Ne.symm (hd.ne.1)) (hd.r.2.1) (hd.r.1))
  have q2:=Lib.hid (is_same a2 w)
  clear hd
  go_enter Tryz.func70,Tryz.ntmps70
  go_wp2_with fail
  refine q1.out.mono ?_
  rintro e1 w1 ⟨rfl,rfl⟩
  go_wp2_with fail
  refine q2.out.mono ?_
  rintro e2 w2 ⟨rfl,rfl⟩
  go_wp2_with fail
  go_ret
  exact ⟨rfl,rfl⟩
set_option maxRecDepth 100000 in
theorem codeOf_3 (a1 a2 a3 a4 a5:Addr) (w:World) (he:Errs w a1 a2 a3 a4 a5) (hd:ErrD w a1 a2 a3 a4 a5) :
    Calls Tryz.prog 70 #[.iface 325 (.pointer (some a3))] w fun e w'=>e=.returned (.int .i64 3)∧w'=w:=by
  obtain ⟨c1,c2,c3,c4,c5⟩:=he
  have q1:=Lib.hid (oi_other a3 a1 w (Ne.symm (hd.ne.2.1)) (hd.r.2.2.1) (hd.r.1))
  have q2:=Lib.hid (oi_other a3 a2 w (Ne.symm (hd.ne.2.2.2.2.1)) (hd.r.2.2.1) (hd.r.2.1))
  have q3:=Lib.hid (is_same a3 w)
  clear hd
  go_enter Tryz.func70,Tryz.ntmps70
  go_wp2_with fail
  refine q1.out.mono ?_
  rintro e1 w1 ⟨rfl,rfl⟩
  go_wp2_with fail
  refine q2.out.mono ?_
  rintro e2 w2 ⟨rfl,rfl⟩
  go_wp2_with fail
  refine q3.out.mono ?_
  rintro e3 w3 ⟨rfl,rfl⟩
  go_wp2_with fail
  go_ret
  exact ⟨rfl,rfl⟩
set_option maxRecDepth 100000 in
theorem codeOf_4 (a1 a2 a3 a4 a5:Addr) (w:World) (he:Errs w a1 a2 a3 a4 a5) (hd:ErrD w a1 a2 a3 a4 a5) :
    Calls Tryz.prog 70 #[.iface 325 (.pointer (some a4))] w fun e w'=>e=.returned (.int .i64 4)∧w'=w:=by
  obtain ⟨c1,c2,c3,c4,c5⟩:=he
  have q1:=Lib.hid (oi_other a4 a1 w (Ne.symm (hd.ne.2.2.1)) (hd.r.2.2.2.1) (hd.r.1))
  have q2:=Lib.hid (oi_other a4 a2 w (Ne.symm (hd.ne.2.2.2.2.2.1)) (hd.r.2.2.2.1) (hd.r.2.1))
  have q3:=Lib.hid (oi_other a4 a3 w (Ne.symm (hd.ne.2.2.2.2.2.2.2.1)) (hd.r.2.2.2.1) (hd.r.2.2.1))
  have q4:=Lib.hid (is_same a4 w)
  clear hd
  go_enter Tryz.func70,Tryz.ntmps70
  go_wp2_with fail
  refine q1.out.mono ?_
  rintro e1 w1 ⟨rfl,rfl⟩
  go_wp2_with fail
  refine q2.out.mono ?_
  rintro e2 w2 ⟨rfl,rfl⟩
  go_wp2_with fail
  refine q3.out.mono ?_
  rintro e3 w3 ⟨rfl,rfl⟩
  go_wp2_with fail
  refine q4.out.mono ?_
  rintro e4 w4 ⟨rfl,rfl⟩
  go_wp2_with fail
  go_ret
  exact ⟨rfl,rfl⟩
set_option maxRecDepth 100000 in
theorem codeOf_5 (a1 a2 a3 a4 a5:Addr) (w:World) (he:Errs w a1 a2 a3 a4 a5) (hd:ErrD w a1 a2 a3 a4 a5) :
    Calls Tryz.prog 70 #[.iface 325 (.pointer (some a5))] w fun e w'=>e=.returned (.int .i64 5)∧w'=w:=by
  obtain ⟨c1,c2,c3,c4,c5⟩:=he
  have q1:=Lib.hid (oi_other a5 a1 w (Ne.symm (hd.ne.2.2.2.1)) (hd.r.2.2.2.2) (hd.r.1))
  have q2:=Lib.hid (oi_other a5 a2 w (Ne.symm (hd.ne.2.2.2.2.2.2.1)) (hd.r.2.2.2.2) (hd.r.2.1))
  have q3:=Lib.hid (oi_other a5 a3 w (Ne.symm (hd.ne.2.2.2.2.2.2.2.2.1)) (hd.r.2.2.2.2) (hd.r.2.2.1))
  have q4:=Lib.hid (oi_other a5 a4 w (Ne.symm (hd.ne.2.2.2.2.2.2.2.2.2)) (hd.r.2.2.2.2) (hd.r.2.2.2.1))
  have q5:=Lib.hid (is_same a5 w)
  clear hd
  go_enter Tryz.func70,Tryz.ntmps70
  go_wp2_with fail
  refine q1.out.mono ?_
  rintro e1 w1 ⟨rfl,rfl⟩
  go_wp2_with fail
  refine q2.out.mono ?_
  rintro e2 w2 ⟨rfl,rfl⟩
  go_wp2_with fail
  refine q3.out.mono ?_
  rintro e3 w3 ⟨rfl,rfl⟩
  go_wp2_with fail
  refine q4.out.mono ?_
  rintro e4 w4 ⟨rfl,rfl⟩
  go_wp2_with fail
  refine q5.out.mono ?_
  rintro e5 w5 ⟨rfl,rfl⟩
  go_wp2_with fail
  go_ret
  exact ⟨rfl,rfl⟩
theorem codeOf_any (a1 a2 a3 a4 a5:Addr) (c:Int) (w:World) (h0:0 ≤ c) (h5:c ≤ 5) (he:Errs w a1 a2 a3 a4 a5) (hd:ErrD w a1 a2 a3 a4 a5) :
    Calls Tryz.prog 70 #[errV a1 a2 a3 a4 a5 c] w fun e w'=>e=.returned (.int .i64 c)∧w'=w:=by
  have h:c=0 ∨ c=1 ∨ c=2 ∨ c=3 ∨ c=4 ∨ c=5:=by omega
  rcases h with rfl | rfl | rfl | rfl | rfl | rfl
  · exact codeOf_0 a1 a2 a3 a4 a5 w he hd
  · exact codeOf_1 a1 a2 a3 a4 a5 w he hd
  · exact codeOf_2 a1 a2 a3 a4 a5 w he hd
  · exact codeOf_3 a1 a2 a3 a4 a5 w he hd
  · exact codeOf_4 a1 a2 a3 a4 a5 w he hd
  · exact codeOf_5 a1 a2 a3 a4 a5 w he hd
end Go.Proofs.YtacgknllagdkoaaGreatDoor
