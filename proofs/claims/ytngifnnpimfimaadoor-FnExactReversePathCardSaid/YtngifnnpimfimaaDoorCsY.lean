/-
  slices.Backward on numbers as an iterator that a function ranges over, and ReversePath of the program. In memory of its own; nothing that was there is changed. The named variables hold what the program's text lays.
-/
import Derived.RangeFuncBox
import Derived.RangeFuncLeaves
import Derived.RangeFuncCalls
import Derived.Shelf.Abstract
import Derived.Shelf.RegionOpen
import Derived.WalkKit
import Derived.OwnWalkIn
import Derived.TacticsInMore
import Derived.LoopNIn
import Derived.LoopIn
import Derived.Maps.AppendAt
import Derived.Deep.Upon
import Derived.Test.YtngifnnpimfimaaDoorCsX
import Derived.Test.YtngifnnpimfimaaDoorQa
import Derived.Test.YtngifnnpimfimaaDoorQa
namespace Go.Proofs.YtngifnnpimfimaaDoor
open Go.RowKit Go.Shelf

attribute [local go_sem] Oper.semAt_some

/-- The indices n - 1, .., q. -/
def dnL (n q : Nat) : List Nat := ((List.range n).drop q).reverse
theorem dnL_top (n : Nat) : dnL n n = [] := by simp [dnL]
theorem dnL_step {n u : Nat} (h : u < n) : dnL n u = dnL n (u + 1) ++ [u] := by
  unfold dnL
  rw [List.drop_eq_getElem_cons (by simpa using h)]
  simp
theorem dnL_len (n q : Nat) : (dnL n q).length = n - q := by simp [dnL]
def gI (p : List Int) (z : Nat) : Int := p[z]?.getD 0
theorem gI_bd {p : List Int} (hd : ∀ z ∈ p, 0 ≤ z ∧ z ≤ 5) (z : Nat) : 0 ≤ gI p z ∧ gI p z ≤ 5 := by
  unfold gI
  cases h : p[z]? with
  | none => simp
  | some x => exact hd x (List.mem_of_getElem? h)
theorem dnL_rev (p : List Int) : (dnL p.length 0).map (fun z => oppI (gI p z)) = revL p := by
  unfold dnL revL
  rw [List.drop_zero, List.map_reverse]
  congr 1
  apply List.ext_getElem
  · simp
  · intro i h1 h2
    simp at h1
    simp [gI, h1]

theorem opp_any (x : Int) (w : World) (h : 0 ≤ x ∧ x ≤ 5) :
    Calls Tryd.prog 55 #[.int .i64 x] w fun e w' => e = .returned (.int .i64 (oppI x)) ∧ w' = w := by
  have e1 : IntKind.i64.wrap (x + 3) = x + 3 := IntWalk.i64_in _ (by omega)
  have e3 := opp_mod h
  clear e3
  go_enter Tryd.func55, Tryd.ntmps55
  go_wp2_with fail
  go_ret
  exact ⟨ret_int (by unfold oppI; omega), rfl⟩

theorem boxed_ownC {β : Type} (B : Nat) (t : TypeId) (f : β → Value) : Own (fun s W => Boxed W B t (f s)) := fun s X Y row hs hg hrow =>
  hs.kept hg (fun e' => by obtain ⟨o, ho, hc⟩ := hrow B e'.symm; rw [show X.heap[B]? = _ from hs] at ho; cases ho; cases hc)
theorem opIn_append {F : Fence} {n : Nat} {P : Program} {o : Oper} {a : Act} {w : World} {K : Act → World → Prop} {Q : Exit → Act → World → Prop} (s x : Operand) (t : TypeId) {v u v' : Value} {w' : World}
    (ho : o.op = .call { callee := .builtin .append, args := #[s, x], argTypes := #[t, t] }) (hs : a.eval s = v) (hx : a.eval x = u) (hrun : (Builtin.append_ #[t, t] o.type #[v, u]).run P w = .ok v' w') (h : K (a.put o.dst v') w') : Oper.wpIn F n P o a w K Q := by
  unfold Oper.wpIn
  refine ⟨?_, ?_⟩
  · simp [Oper.about, ho, resolve, Target.leads, Sem.run_pure]
  · rw [Oper.semAt_plain F _ _ (by rw [ho]; intro c hc'; cases hc')]
    simp [execOp, ho, resolve, invoke, builtin, hs, hx, hrun, Result.andThen]
    exact h
theorem wpListIn_append_run {F : Fence} {n : Nat} {P : Program} (w : World) {ops : Array Oper} {rest : List Oper} {o : Oper} {a : Act} {Q : Exit → Act → World → Prop}
    (hg : o.guard = none) (s x : Operand) (t : TypeId) (hop : o.op = Op.call { callee := Callee.builtin Builtin.append, args := #[s, x], argTypes := #[t, t] })
    {v u v' : Value} {w' : World} (hs : a.eval s = v) (hx : a.eval x = u) (hrun : (Builtin.append_ #[t, t] o.type #[v, u]).run P w = .ok v' w') (hK : wpListIn F n P ops Q rest (a.put o.dst v') w') : wpListIn F n P ops Q (o :: rest) a w := by
  refine wpListIn_plain hg fun K hK' => ?_
  exact opIn_append s x t hop hs hx hrun (hK' _ _ hK)
/-- What a round keeps: all below n₀, and the box of the slice that is ranged over. -/
def KpB (T : TypeId) (Bs n₀ : Nat) (W W' : World) : Prop := Below n₀ W W' ∧ ∀ v, Boxed W Bs T v → Boxed W' Bs T v
theorem KpB.refl {T : TypeId} {Bs n₀ : Nat} (W : World) : KpB T Bs n₀ W W := ⟨Below.refl _ _, fun _ h => h⟩
theorem KpB.t {T : TypeId} {Bs n₀ : Nat} {A B C : World} (h : KpB T Bs n₀ A B) (k : KpB T Bs n₀ B C) : KpB T Bs n₀ A C := ⟨h.1.trans k.1, fun v hv => k.2 v (h.2 v hv)⟩
theorem KpB.b {T : TypeId} {Bs n₀ : Nat} {w : World} (hn : n₀ ≤ w.heap.size) (W : World) (l : Nat) (o o' : Obj) (hl : w.heap.size ≤ l) (h : W.heap[l]? = some o) (hc : o.isCells = false) (hw : o.isWalk = false) : KpB T Bs n₀ W (W.putObj l o') :=
  ⟨belowK_b hn W l o o' hl h hc hw, fun v hv => hv.kept (grownBy_putObj' W l o') (fun e => by
    obtain rfl : Bs = l := Option.some.inj e
    rw [show W.heap[Bs]? = _ from hv] at h
    cases h
    cases hc)⟩

set_option maxRecDepth 100000 in
set_option maxHeartbeats 2000000 in
theorem backward_in (F : Fence) (nn : Nat) (hf : F.fn 54) (hro : F.round = none) (A : Option Addr) (n c : Nat) (w : World) :
    CallsIn F nn Tryd.prog 54 #[.slice A n c] w fun e w' => e = .returned (.func (.func 84) #[] #[.pointer (some ⟨w.heap.size, 0, none⟩)]) ∧ w' = w.alloc (.cells #[.slice A n c] 29) := by
  refine callsIn_of_wp Tryd.func54 rfl hf ?_ hro
  simp only [Tryd.ntmps54, List.size_toArray, List.length_cons, List.length_nil, Nat.reduceAdd, Nat.reduceSub, Array.replicate_succ, Array.replicate_zero, List.push_toArray, List.append_toArray, List.nil_append, List.cons_append]
  gi_wp2
  go_ret
  exact ⟨rfl, rfl⟩

set_option maxRecDepth 100000 in
set_option maxHeartbeats 4000000 in
theorem back1_in (F : Fence) (nn : Nat) (hf : F.fn 84) (hro : F.round = none) (hn : 1 ≤ nn) (l Bs n₀ : Nat) (A : Option Addr) (n c : Nat) (p : List Int) (hpn : p.length = n) (hn9 : n ≤ 9) (J Jx : List Nat → World → Prop)
    (hY : ∀ (pre : List Nat) (x : Nat) (W : World), J pre W → pre.length < n → YieldAt F (nn - 1) Tryd.prog l #[.int .i64 (x : Int), .int .i64 (gI p x)] W fun e W' =>
      (e = .returned (.bool true) ∧ J (pre ++ [x]) W' ∧ KpB 29 Bs n₀ W W') ∨ (e = .returned (.bool false) ∧ Jx (pre ++ [x]) W'))
    (W : World) (hB : Boxed W Bs 29 (.slice A n c)) (hc : 0 < n → ∃ g off, A = some ⟨g, off, none⟩ ∧ g < n₀ ∧ ∀ i x, p[i]? = some x → W.cell? ⟨g, off + i, none⟩ = some (.int .i64 x)) (h0 : J [] W) :
    CallsIn F nn Tryd.prog 84 #[.func (.yield l) #[] #[], .pointer (some ⟨Bs, 0, none⟩)] W fun e W' => (∃ v, e = .returned v) ∧
      ((∃ ys, ys = dnL n 0 ∧ J ys W') ∨ (∃ pre, (∃ k, k ≤ n ∧ pre = dnL n k) ∧ Jx pre W')) := by
  have e0 : IntKind.i64.wrap ((n : Int) - 1) = (n : Int) - 1 := IntWalk.i64_in _ (by omega)
  have b0 := hB.cell
  have HY := Lib.hid hY
  have HC := Lib.hid hc
  clear hY hc
  refine callsIn_of_wp Tryd.func84 rfl hf ?_ hro
  simp only [Tryd.ntmps84, List.size_toArray, List.length_cons, List.length_nil, Nat.reduceAdd, Nat.reduceSub, Array.replicate_succ, Array.replicate_zero, List.push_toArray, List.append_toArray, List.nil_append, List.cons_append]
  gi_wp2
  gi_loopw [3] (fun i wr => ∃ q : Nat, q ≤ n ∧ i = .int .i64 ((q : Int) - 1) ∧ Hid (J (dnL n q) wr) ∧ Hid (KpB 29 Bs n₀ W wr)) (fun i _ => (intOf i + 1).toNat)
  case atStart => exact ⟨n, Nat.le_refl _, rfl, Lib.hid (by rw [dnL_top]; exact h0), Lib.hid (KpB.refl _)⟩
  case round =>
    obtain ⟨q, hq, rfl, hJs, hk⟩ := hrel
    have b1 := (hk.out.2 _ hB).cell
    by_cases hq0 : q = 0
    · subst hq0
      gi_wp2
      go_end0
      exact ⟨⟨_, rfl⟩, .inl ⟨_, rfl, hJs.out⟩⟩
    · obtain ⟨u, rfl⟩ : ∃ u, q = u + 1 := ⟨q - 1, by omega⟩
      have hu : ((u + 1 : Nat) : Int) - 1 = u := by omega
      rw [hu]
      obtain ⟨g, off, rfl, hg, hcs⟩ := HC.out (by omega)
      obtain ⟨x, hx⟩ : ∃ x, p[u]? = some x := ⟨p[u]'(by omega), List.getElem?_eq_getElem _⟩
      have a0 : wr.cell? ⟨g, off + u, none⟩ = some (.int .i64 (gI p u)) := by
        rw [hk.out.1.cell (p := ⟨g, off + u, none⟩) hg, hcs u x hx]
        simp [gI, hx]
      obtain ⟨fn, tmps, assign, body, hy, hR⟩ := HY.out _ u wr hJs.out (by rw [dnL_len]; omega)
      have e2 : IntKind.i64.wrap ((u : Int) - 1) = (u : Int) - 1 := IntWalk.i64_in _ (by omega)
      have hun : (u : Int) < n := by omega
      have HR := Lib.hid hR
      clear hcs hx hR hu
      gi_wp2
      refine HR.out.mono ?_
      rintro e W3 (⟨rfl, hJ3, hk3⟩ | ⟨rfl, hJx3⟩)
      · have HJ3 := Lib.hid hJ3
        have HK3 := Lib.hid (hk.out.t hk3)
        clear hJ3 hk3
        gi_wp2
        go_roundw
        case rel => exact ⟨u, by omega, rfl, Lib.hid (by rw [dnL_step (show u < n by omega)]; exact HJ3.out), HK3⟩
        case measure => simp [intOf]
      · have HJ3 := Lib.hid hJx3
        clear hJx3
        gi_wp2
        refine bodyPost_ret (results_none rfl _ _ _) rfl ?_
        exact ⟨⟨_, rfl⟩, .inr ⟨_, ⟨u, by omega, (dnL_step (show u < n by omega)).symm⟩, HJ3.out⟩⟩

theorem back_stops (F : Fence) (nn : Nat) (hf : F.fn 84) (hro : F.round = none) (hn : 1 ≤ nn) (Bs n₀ : Nat) (A : Option Addr) (n c : Nat) (p : List Int) (hpn : p.length = n) (hn9 : n ≤ 9) (w : World) (hBs : Bs < w.heap.size) (hn₀ : n₀ ≤ w.heap.size)
    (hB : Boxed w Bs 29 (.slice A n c)) (hc : 0 < n → ∃ g off, A = some ⟨g, off, none⟩ ∧ g < n₀ ∧ ∀ i x, p[i]? = some x → w.cell? ⟨g, off + i, none⟩ = some (.int .i64 x)) :
    SeqStopsK F nn Tryd.prog 84 #[.pointer (some ⟨Bs, 0, none⟩)] (fun x : Nat => #[Value.int .i64 (x : Int), Value.int .i64 (gI p x)]) (KpB 29 Bs n₀) (fun ys => ys = dnL n 0) (fun pre => ∃ k, k ≤ n ∧ pre = dnL n k) n w := fun l J Jx W hW _ _ hY h0 =>
  back1_in F nn hf hro hn l Bs n₀ A n c p hpn hn9 J Jx hY W ((hW.block Bs hBs).trans hB) (fun h => by
    obtain ⟨g, off, e, hg, hcs⟩ := hc h
    exact ⟨g, off, e, hg, fun i x hx => (hW.cell (p := ⟨g, off + i, none⟩) (Nat.lt_of_lt_of_le hg hn₀)).trans (hcs i x hx)⟩) h0

set_option maxRecDepth 100000 in
set_option maxHeartbeats 4000000 in
theorem reversePathP_any (At Ak : Option Addr) (nt nk ct ck : Nat) (l : List Ter) (m : List Knd) (a b c d e W H : Int) (x r y : Value) (lt lr ld : List Int) (i : Int) (v : Value) (p : List Int) (w : World) (hs : Spans w) (ht : Tab w) (hB : BrdAt w At Ak nt nk l m x r y lt lr ld) (hp : RdI w v p) (hpl : p.length ≤ 1048576) :
    Calls Tryd.prog 26 #[bv (.slice At nt ct) (.slice Ak nk ck) a b c d e W H x r y, .int .i64 i, v] w (RevPost (((brdOk ⟨l, m, a, b, c, d, e⟩ W H lt lr ld && onI W H i) && pthB p) && onP W H i p) (endP W i p) (revL p) w) := by
  have KA : Kp w (w.alloc (.cells #[.slice At nt ct, .slice Ak nk ck, .int .i64 a, .int .i64 b, .int .i64 c, .int .i64 d, .int .i64 e, .int .i64 W, .int .i64 H, x, r, y] 42)) := (Kp.refl w).alloc _
  have s0 : cb12 (w.alloc (.cells #[.slice At nt ct, .slice Ak nk ck, .int .i64 a, .int .i64 b, .int .i64 c, .int .i64 d, .int .i64 e, .int .i64 W, .int .i64 H, x, r, y] 42)) (w.heap.size) (.slice At nt ct) (.slice Ak nk ck) (.int .i64 a) (.int .i64 b) (.int .i64 c) (.int .i64 d) (.int .i64 e) (.int .i64 W) (.int .i64 H) (x) (r) (y) (Kp w (w.alloc (.cells #[.slice At nt ct, .slice Ak nk ck, .int .i64 a, .int .i64 b, .int .i64 c, .int .i64 d, .int .i64 e, .int .i64 W, .int .i64 H, x, r, y] 42))) := ⟨by simp [go_sem], by simp [go_sem], by simp [go_sem], by simp [go_sem], by simp [go_sem], by simp [go_sem], by simp [go_sem], by simp [go_sem], by simp [go_sem], by simp [go_sem], by simp [go_sem], by simp [go_sem], KA⟩
  have CP := pathHexesP_any At Ak nt nk ct ck l m a b c d e W H x r y lt lr ld i v p _ (hs.keep KA) (ht.keep KA) (hB.keep KA) (hp.keep KA) hpl
  obtain ⟨OKB, hOK⟩ : ∃ z, z = (((brdOk ⟨l, m, a, b, c, d, e⟩ W H lt lr ld && onI W H i) && pthB p) && onP W H i p) := ⟨_, rfl⟩
  rw [← hOK] at CP ⊢
  unfold ListPostI at CP
  have hF : OKB = true → p.length ≤ 9 ∧ ∀ z ∈ p, 0 ≤ z ∧ z ≤ 5 := fun h => by
    rw [hOK] at h
    simp only [Bool.and_eq_true] at h
    exact pth_dir h.1.2
  have hlh := hexP_len W p i
  have HLAST : Hid (p ≠ [] → (hexP W i p)[p.length - 1]? = some (endP W i p)) := Lib.hid fun h => hexP_last h
  have HE0 : Hid (p = [] → endP W i p = i) := Lib.hid fun h => by rw [h]; rfl
  have HRV := Lib.hid (dnL_rev p)
  generalize hexP W i p = L at *
  generalize endP W i p = X at *
  obtain ⟨A0, c0, rfl, hcv⟩ := hp
  generalize hn : p.length = n at *
  have HN : Hid (n = p.length) := Lib.hid hn.symm
  have hcvK : Hid (0 < n → ∃ g off, A0 = some ⟨g, off, none⟩ ∧ ∀ i x, p[i]? = some x → w.cell? ⟨g, off + i, none⟩ = some (.int .i64 x)) := Lib.hid hcv
  clear hs ht hB hpl hOK hn hcv
  have hf18 : Fence.wide.fn 18 := trivial
  have hf54 : Fence.wide.fn 54 := trivial
  have cP : CallsIn Fence.wide 8 Tryd.prog 18 _ _ _ := callsIn_wide.2 CP
  have HCP := Lib.hid cP
  clear CP cP
  refine (callsIn_wide (n := 9)).1 ?_
  cases OKB
  · clear hF HLAST HE0 HRV hcvK
    refine callsIn_of_wp_marks Tryd.func26 rfl trivial ?_ rfl
    simp only [Tryd.ntmps26, List.size_toArray, List.length_cons, List.length_nil, Nat.reduceAdd, Nat.reduceSub, Array.replicate_succ, Array.replicate_zero, List.push_toArray, List.append_toArray, List.nil_append, List.cons_append]
    gi_wp2_with (gi_at_call 18; refine HCP.out.mono ?_; rintro e1 w1 ⟨v1, rfl, o1, k1⟩; clear o1)
    refine ⟨.tuple #[.int .i64 0, .slice none 0 0, .bool false], by simp [results, Tryd.results26, go_sem], ?_⟩
    exact RevPost.no (s0.2.2.2.2.2.2.2.2.2.2.2.2.trans k1)
  · obtain ⟨hn9, hpd⟩ := hF rfl
    have HPD := Lib.hid hpd
    clear hF hpd
    refine callsIn_of_wp_marks Tryd.func26 rfl trivial ?_ rfl
    simp only [Tryd.ntmps26, List.size_toArray, List.length_cons, List.length_nil, Nat.reduceAdd, Nat.reduceSub, Array.replicate_succ, Array.replicate_zero, List.push_toArray, List.append_toArray, List.nil_append, List.cons_append]
    gi_wp2_with (first
      | (gi_at_call 18; refine HCP.out.mono ?_; rintro e1 w1 ⟨v1, rfl, o1, k1⟩; rw [if_pos rfl] at o1; have O1 := Lib.hid o1; have hmk := mkIntsX n (by omega) w1; clear o1)
      | (gi_at_call 54; refine (backward_in Fence.wide 8 hf54 rfl _ _ _ _).mono ?_; rintro e2 w2 ⟨rfl, rfl⟩))
    clear hmk
    have K1 : Kp w w1 := s0.2.2.2.2.2.2.2.2.2.2.2.2.trans k1
    clear s0 k1 KA
    have bB : Boxed (((w1.alloc (.cells (madeCells #[.int .i64 0] n) 3)).alloc (.cells #[.slice (some ⟨w1.heap.size, 0, none⟩) 0 n] 29)).alloc (.cells #[.slice A0 n c0] 29)) (w1.heap.size + 1) 29 (.slice (some ⟨w1.heap.size, 0, none⟩) 0 n) := by
      have h := (Boxed.new (w1.alloc (.cells (madeCells #[.int .i64 0] n) 3)) 29 (.slice (some ⟨w1.heap.size, 0, none⟩) 0 n)).alloc (.cells #[.slice A0 n c0] 29)
      rw [World.size_alloc] at h
      exact h
    have bS : Boxed (((w1.alloc (.cells (madeCells #[.int .i64 0] n) 3)).alloc (.cells #[.slice (some ⟨w1.heap.size, 0, none⟩) 0 n] 29)).alloc (.cells #[.slice A0 n c0] 29)) (w1.heap.size + 1 + 1) 29 (.slice A0 n c0) := by
      have h := Boxed.new ((w1.alloc (.cells (madeCells #[.int .i64 0] n) 3)).alloc (.cells #[.slice (some ⟨w1.heap.size, 0, none⟩) 0 n] 29)) 29 (.slice A0 n c0)
      rw [World.size_alloc, World.size_alloc] at h
      exact h
    have hrow0 : (((w1.alloc (.cells (madeCells #[.int .i64 0] n) 3)).alloc (.cells #[.slice (some ⟨w1.heap.size, 0, none⟩) 0 n] 29)).alloc (.cells #[.slice A0 n c0] 29)).ownsRow w1.heap.size 3 1 (.slice (some ⟨w1.heap.size, 0, none⟩) 0 n) 0 [] := ((ownI_madeX w1 w1.heap.size n (Nat.le_refl _) (by omega)).alloc _).alloc _
    have hB0 : Below w1.heap.size w1 (((w1.alloc (.cells (madeCells #[.int .i64 0] n) 3)).alloc (.cells #[.slice (some ⟨w1.heap.size, 0, none⟩) 0 n] 29)).alloc (.cells #[.slice A0 n c0] 29)) := (((Below.refl _ w1).alloc (Nat.le_refl _) _).alloc (by simp) _).alloc (by simp; omega) _
    have hcW : 0 < n → ∃ g off, A0 = some ⟨g, off, none⟩ ∧ g < w1.heap.size ∧ ∀ i x, p[i]? = some x → (((w1.alloc (.cells (madeCells #[.int .i64 0] n) 3)).alloc (.cells #[.slice (some ⟨w1.heap.size, 0, none⟩) 0 n] 29)).alloc (.cells #[.slice A0 n c0] 29)).cell? ⟨g, off + i, none⟩ = some (.int .i64 x) := fun h => by
      obtain ⟨g, off, e, hcs⟩ := hcvK.out h
      have h0 := K1.cell (hcs 0 _ (List.getElem?_eq_getElem (by have := HN.out; omega)))
      have hg := cell_lt h0
      exact ⟨g, off, e, hg, fun i x hx => (hB0.cell (p := ⟨g, off + i, none⟩) hg).trans (K1.cell (hcs i x hx))⟩
    obtain ⟨j0, hj0, hz0, hs0, hb0⟩ := info_parts infoInt
    refine wpIn_rangeFunc_ownG rfl (by omega) (gf := 84) (lb := #[.pointer (some ⟨w1.heap.size + 1 + 1, 0, none⟩)]) rfl trivial (enters_of Tryd.func84 (by kernel_rfl) rfl)
      (back_stops Fence.wide 8 trivial rfl (by omega) (w1.heap.size + 1 + 1) w1.heap.size A0 n c0 p HN.out.symm hn9 (((w1.alloc (.cells (madeCells #[.int .i64 0] n) 3)).alloc (.cells #[.slice (some ⟨w1.heap.size, 0, none⟩) 0 n] 29)).alloc (.cells #[.slice A0 n c0] 29)) (by simp) (by simp; omega) bS hcW) KpB.t (KpB.b (by simp; omega)) (Below.refl _ _) (fun _ => rfl)
      (fun pre W => ((∃ v, Boxed W (w1.heap.size + 1) 29 v ∧ W.ownsRow w1.heap.size 3 1 v pre.length (pre.map fun z => Value.int .i64 (oppI (gI p z))) ∧ True) ∧ Boxed W (w1.heap.size + 1 + 1) 29 (.slice A0 n c0)) ∧ Below w1.heap.size w1 W)
      (fun _ _ _ => False)
      (OwnFrom.and (OwnFrom.and (Own.from (holdsRow_own w1.heap.size (w1.heap.size + 1) 29 3 1 (fun pre : List Nat => pre.length) (fun pre => pre.map fun z => Value.int .i64 (oppI (gI p z))) (fun _ _ => True)) _) (Own.from (boxed_ownC (w1.heap.size + 1 + 1) 29 (fun _ : List Nat => .slice A0 n c0)) _)) (ownFrom_below (Nat.le_refl _) (by simp; omega)))
      (fun _ _ _ _ _ hs _ _ => hs)
      ⟨⟨⟨_, bB, hrow0, trivial⟩, bS⟩, hB0⟩
      (fun z => { tmps := #[bv (.slice At nt ct) (.slice Ak nk ck) a b c d e W H x r y, .int .i64 i, .slice A0 n c0, .pointer (some ⟨w.heap.size, 0, none⟩), undef, undef, .int .i64 0, .slice none 0 0, .bool false, v1, .bool true, .pointer (some ⟨w1.heap.size + 1, 0, none⟩), undef, .int .i64 (gI p z), undef, .tuple #[v1, .bool true], .agg #[.slice At nt ct, .slice Ak nk ck, .int .i64 a, .int .i64 b, .int .i64 c, .int .i64 d, .int .i64 e, .int .i64 W, .int .i64 H, x, r, y], .int .i64 i, .slice A0 n c0, .tuple #[v1, .bool true], v1, .bool true, .bool true, .bool false, .slice A0 n c0, .int .i64 n, .slice (some ⟨w1.heap.size, 0, none⟩) 0 n, .slice A0 n c0, .func (.func 84) #[] #[.pointer (some ⟨w1.heap.size + 1 + 1, 0, none⟩)], .int .i64 (z : Int), .int .i64 (gI p z), undef, undef, undef, undef, undef, undef, undef, undef, undef, undef, undef, undef, undef, undef, undef], defers := [] }) ?assign ?body ?done ?stop
    case assign =>
      intro l x W K hK
      gi_wp2
      exact hK
    case body =>
      rintro l pre x W ⟨⟨⟨v, hv, hrow, _⟩, hbs⟩, hB⟩ hlt
      have hc := hv.cell
      have hf := hv.frozen
      have hgx := gI_bd HPD.out x
      have hmx : Tryd.prog.follows .mixedOrders = true := by kernel_rfl
      have hf55 : Fence.wide.fn 55 := trivial
      have hrowD := ownsRow_keep hrow ((Kp.refl W).drew)
      have hvD : Boxed W.drew (w1.heap.size + 1) 29 v := hv
      have hbsD : Boxed W.drew (w1.heap.size + 1 + 1) 29 (.slice A0 n c0) := hbs
      have hcB := (hv.alloc (.cells #[.int .i64 (oppI (gI p x))] 3)).cell
      have hszW := hB.size
      have hszD : w1.heap.size ≤ W.drew.heap.size := hszW
      obtain ⟨v', w4, hrun, hown', hgrow, _⟩ := run_append_own (P := Tryd.prog) (w := W.drew.alloc (.cells #[.int .i64 (oppI (gI p x))] 3)) w1.heap.size 29 29 3 j0 (.int .i64 0) 1 8 Tryd.underlying29 hj0 hz0 hs0 hb0 rfl (by decide) v pre.length _ (hrowD.alloc _) ⟨W.heap.size, 0, none⟩ 1 1 [.int .i64 (oppI (gI p x))] rfl (one_cell W.drew _ _) (by simp [Value.oneCell']) (by simp only [maxLen]; omega) (by omega) (by simp; omega)
      obtain ⟨g', cap', rfl⟩ := ownsRow_succ hown'
      obtain ⟨hv1, hv2, hr2, hk2, hb2⟩ := hvD.appended (by decide) hrowD hszD (by omega) hown' hgrow
      have hc1 := hv1.cell
      have hf1 := hv1.frozen
      have HH := Lib.hid (And.intro hown' (And.intro hgrow (And.intro hv2 (And.intro hr2 (And.intro hk2 hb2)))))
      clear hown' hgrow hv2 hr2 hk2 hb2 hv1
      have FINI : KeepsFrom (((w1.alloc (.cells (madeCells #[.int .i64 0] n) 3)).alloc (.cells #[.slice (some ⟨w1.heap.size, 0, none⟩) 0 n] 29)).alloc (.cells #[.slice A0 n c0] 29)).heap.size W (w4.setCell ⟨w1.heap.size + 1, 0, none⟩ (.slice (some ⟨g', 0, none⟩) (pre.length + 1) cap')) ∧ KpB 29 (w1.heap.size + 1 + 1) w1.heap.size W (w4.setCell ⟨w1.heap.size + 1, 0, none⟩ (.slice (some ⟨g', 0, none⟩) (pre.length + 1) cap')) ∧ (((∃ v, Boxed (w4.setCell ⟨w1.heap.size + 1, 0, none⟩ (.slice (some ⟨g', 0, none⟩) (pre.length + 1) cap')) (w1.heap.size + 1) 29 v ∧ (w4.setCell ⟨w1.heap.size + 1, 0, none⟩ (.slice (some ⟨g', 0, none⟩) (pre.length + 1) cap')).ownsRow w1.heap.size 3 1 v (pre ++ [x]).length ((pre ++ [x]).map fun z => Value.int .i64 (oppI (gI p z))) ∧ True) ∧ Boxed (w4.setCell ⟨w1.heap.size + 1, 0, none⟩ (.slice (some ⟨g', 0, none⟩) (pre.length + 1) cap')) (w1.heap.size + 1 + 1) 29 (.slice A0 n c0)) ∧ Below w1.heap.size w1 (w4.setCell ⟨w1.heap.size + 1, 0, none⟩ (.slice (some ⟨g', 0, none⟩) (pre.length + 1) cap'))) := by
        obtain ⟨q1, q2, q3, q4, q5, q6⟩ := HH.out
        have keepBox : ∀ u, Boxed W (w1.heap.size + 1 + 1) 29 u → Boxed (w4.setCell ⟨w1.heap.size + 1, 0, none⟩ (.slice (some ⟨g', 0, none⟩) (pre.length + 1) cap')) (w1.heap.size + 1 + 1) 29 u := fun u hu => by
          have h1 : Boxed W.drew (w1.heap.size + 1 + 1) 29 u := hu
          exact ((h1.alloc _).kept q2 (h1.not_row (by decide) hrowD)).kept (grownBy_setCell' _ _ _) (fun e => by have := Option.some.inj e; omega)
        exact ⟨((KeepsOthers.drew W).trans q5).from _, ⟨((Below.refl w1.heap.size W).drew.trans q6), keepBox⟩, ⟨⟨_, q3, by simpa using q4, trivial⟩, keepBox _ hbs⟩, hB.trans ((Below.refl w1.heap.size W).drew.trans q6)⟩
      have FIN := Lib.hid FINI
      clear FINI
      gi_wp2
      refine wpIn_region_any (by kernel_rfl) ?_
      try (change wpAnyIn _ _ _ _ _ _ _ _ _ (World.drew _))
      refine wpAnyIn_ready (rs := [0, 1]) (by kernel_rfl) (by simp) ?_
      refine (AllReadyIn.cons rfl (fun K hK => ?_) (AllReadyIn.cons rfl (fun K hK => ?_) AllReadyIn.nil))
      · go_simp
        refine hK _ _ ?_
        clear hK K
        refine wpAnyIn_ready (rs := [1]) (by kernel_rfl) (by simp) ?_
        refine (AllReadyIn.cons rfl (fun K hK => ?_) AllReadyIn.nil)
        go_simp
        refine hK _ _ ?_
        clear hK K
        refine wpAnyIn_ready (rs := [2]) (by kernel_rfl) (by simp) ?_
        refine (AllReadyIn.cons rfl (fun K hK => ?_) AllReadyIn.nil)
        go_simp
        gi_wp2_with (gi_at_call 55; refine (CallsIn.inRound l (callsIn_wide.2 (opp_any _ _ hgx))).mono ?_; rintro e w' ⟨rfl, rfl⟩)
        refine wpAnyIn_ready (rs := [3]) (by kernel_rfl) (by simp) ?_
        refine (AllReadyIn.cons rfl (fun K hK => ?_) AllReadyIn.nil)
        go_simp
        refine hK _ _ ?_
        clear hK K
        refine wpAnyIn_ready (rs := [4]) (by kernel_rfl) (by simp) ?_
        refine (AllReadyIn.cons rfl (fun K hK => ?_) AllReadyIn.nil)
        refine opIn_append _ _ 29 rfl rfl rfl hrun ?_
        refine hK _ _ ?_
        clear hK K
        refine wpAnyIn_ready (rs := [5]) (by kernel_rfl) (by simp) ?_
        refine (AllReadyIn.cons rfl (fun K hK => ?_) AllReadyIn.nil)
        go_simp
        refine hK _ _ ?_
        clear hK K
        refine wpAnyIn_done (by kernel_rfl) ?_ _
        gi_wp2
        exact FIN.out
      · go_simp
        refine hK _ _ ?_
        clear hK K
        refine wpAnyIn_ready (rs := [0, 2]) (by kernel_rfl) (by simp) ?_
        refine (AllReadyIn.cons rfl (fun K hK => ?_) (AllReadyIn.cons rfl (fun K hK => ?_) AllReadyIn.nil))
        · go_simp
          refine hK _ _ ?_
          clear hK K
          refine wpAnyIn_ready (rs := [2]) (by kernel_rfl) (by simp) ?_
          refine (AllReadyIn.cons rfl (fun K hK => ?_) AllReadyIn.nil)
          go_simp
          gi_wp2_with (gi_at_call 55; refine (CallsIn.inRound l (callsIn_wide.2 (opp_any _ _ hgx))).mono ?_; rintro e w' ⟨rfl, rfl⟩)
          refine wpAnyIn_ready (rs := [3]) (by kernel_rfl) (by simp) ?_
          refine (AllReadyIn.cons rfl (fun K hK => ?_) AllReadyIn.nil)
          go_simp
          refine hK _ _ ?_
          clear hK K
          refine wpAnyIn_ready (rs := [4]) (by kernel_rfl) (by simp) ?_
          refine (AllReadyIn.cons rfl (fun K hK => ?_) AllReadyIn.nil)
          refine opIn_append _ _ 29 rfl rfl rfl hrun ?_
          refine hK _ _ ?_
          clear hK K
          refine wpAnyIn_ready (rs := [5]) (by kernel_rfl) (by simp) ?_
          refine (AllReadyIn.cons rfl (fun K hK => ?_) AllReadyIn.nil)
          go_simp
          refine hK _ _ ?_
          clear hK K
          refine wpAnyIn_done (by kernel_rfl) ?_ _
          gi_wp2
          exact FIN.out
        · go_simp
          gi_wp2_with (gi_at_call 55; refine (CallsIn.inRound l (callsIn_wide.2 (opp_any _ _ hgx))).mono ?_; rintro e w' ⟨rfl, rfl⟩)
          refine wpAnyIn_ready (rs := [0, 3]) (by kernel_rfl) (by simp) ?_
          refine (AllReadyIn.cons rfl (fun K hK => ?_) (AllReadyIn.cons rfl (fun K hK => ?_) AllReadyIn.nil))
          · go_simp
            refine hK _ _ ?_
            clear hK K
            refine wpAnyIn_ready (rs := [3]) (by kernel_rfl) (by simp) ?_
            refine (AllReadyIn.cons rfl (fun K hK => ?_) AllReadyIn.nil)
            go_simp
            refine hK _ _ ?_
            clear hK K
            refine wpAnyIn_ready (rs := [4]) (by kernel_rfl) (by simp) ?_
            refine (AllReadyIn.cons rfl (fun K hK => ?_) AllReadyIn.nil)
            refine opIn_append _ _ 29 rfl rfl rfl hrun ?_
            refine hK _ _ ?_
            clear hK K
            refine wpAnyIn_ready (rs := [5]) (by kernel_rfl) (by simp) ?_
            refine (AllReadyIn.cons rfl (fun K hK => ?_) AllReadyIn.nil)
            go_simp
            refine hK _ _ ?_
            clear hK K
            refine wpAnyIn_done (by kernel_rfl) ?_ _
            gi_wp2
            exact FIN.out
          · go_simp
            refine hK _ _ ?_
            clear hK K
            refine wpAnyIn_ready (rs := [0]) (by kernel_rfl) (by simp) ?_
            refine (AllReadyIn.cons rfl (fun K hK => ?_) AllReadyIn.nil)
            go_simp
            refine hK _ _ ?_
            clear hK K
            refine wpAnyIn_ready (rs := [4]) (by kernel_rfl) (by simp) ?_
            refine (AllReadyIn.cons rfl (fun K hK => ?_) AllReadyIn.nil)
            refine opIn_append _ _ 29 rfl rfl rfl hrun ?_
            refine hK _ _ ?_
            clear hK K
            refine wpAnyIn_ready (rs := [5]) (by kernel_rfl) (by simp) ?_
            refine (AllReadyIn.cons rfl (fun K hK => ?_) AllReadyIn.nil)
            go_simp
            refine hK _ _ ?_
            clear hK K
            refine wpAnyIn_done (by kernel_rfl) ?_ _
            gi_wp2
            exact FIN.out
    case done =>
      rintro D ys W hD rfl ⟨⟨⟨v, hv, hrow, _⟩, hbs⟩, hB⟩ hK
      have hsD : w1.heap.size + 3 ≤ D := by simp at hD; omega
      have hDW := (Array.getElem?_eq_some_iff.1 hK).1
      have K1W : Kp w1 W := hB
      have OW := Lib.hid (O1.out.keep K1W)
      have hlen0 : (dnL n 0).length = n := by rw [dnL_len]; omega
      rw [hlen0] at hrow
      have hown0 : (W.alloc (.cells #[.int .i64 i] 3)).ownsRow W.heap.size 3 1 (.slice (some ⟨W.heap.size, 0, none⟩) 1 1) 1 [.int .i64 i] := World.ownsRow_lit W _ 1 (Nat.le_refl _) (by simp only [maxLen]; omega) rfl
      have WAY : ∃ (g' cap' : Nat) (w4 : World), (Builtin.append_ #[29, 29] 29 #[.slice (some ⟨W.heap.size, 0, none⟩) 1 1, v1]).run Tryd.prog (W.alloc (.cells #[.int .i64 i] 3)) = .ok (.slice (some ⟨g', 0, none⟩) (n + 1) cap') w4 ∧ w4.cell? ⟨g', n, none⟩ = some (.int .i64 X) ∧ (∃ row, W.grownBy w4 row ∧ ∀ r, row = some r → W.heap.size ≤ r) := by
        obtain ⟨A9, c9, e9, h9⟩ := OW.out.rd
        rw [hlh] at e9 h9
        subst e9
        by_cases hn0 : n = 0
        · subst hn0
          have hX := HE0.out (List.eq_nil_of_length_eq_zero HN.out.symm)
          refine ⟨W.heap.size, 1, W.alloc (.cells #[.int .i64 i] 3), ?_, ?_, none, World.grownBy_alloc W _ none, fun r e => by cases e⟩
          · have hsrc : Src Tryd.prog j0.size 29 (.slice A9 0 c9) 0 [] (W.alloc (.cells #[.int .i64 i] 3)) := by
              cases A9 with
              | none => exact Src.ofNil _ Tryd.underlying29 c9
              | some a9 => exact Src.ofSlice _ Tryd.underlying29 a9 0 c9 [] (by simp) (fun j u h => by simp at h) (fun u h => by cases h)
            exact run_append_nothing _ 29 29 29 3 j0 Tryd.underlying29 hj0 (some ⟨W.heap.size, 0, none⟩) 1 1 (Nat.le_refl _) _ hsrc
          · rw [hX]
            simp [go_sem]
        · obtain ⟨g9, f9, rfl, hc9⟩ := h9 (by omega)
          have hxl : (cellsI L).length = n := by simp [cellsI, hlh]
          obtain ⟨v', w4, hrun, hown', hgrow, _⟩ := run_append_own (P := Tryd.prog) (w := W.alloc (.cells #[.int .i64 i] 3)) W.heap.size 29 29 3 j0 (.int .i64 0) 1 8 Tryd.underlying29 hj0 hz0 hs0 hb0 rfl (by decide) _ 1 [.int .i64 i] hown0 ⟨g9, f9, none⟩ n c9 (cellsI L) (by rw [hxl, Nat.mul_one])
            (fun j u h => by
              have h2 : (cellsI L)[j]? = (L[j]?).map (Value.int .i64) := by simp [cellsI]
              rw [h2] at h
              obtain ⟨z, hz, rfl⟩ := Option.map_eq_some_iff.1 h
              rw [Addr.add_lit]
              exact ((Kp.refl W).alloc _).cell (hc9 j z hz))
            (fun u h => by
              obtain ⟨z, _, rfl⟩ := List.mem_map.1 h
              rfl) (by simp only [maxLen]; omega) (by omega) (by simp)
          rw [Nat.add_comm 1 n] at hown'
          obtain ⟨g', cap', rfl⟩ := ownsRow_succ hown'
          refine ⟨g', cap', w4, hrun, ?_, some W.heap.size, (World.grownBy_alloc W _ _).trans hgrow, fun r e => by cases e; exact Nat.le_refl _⟩
          rw [World.ownsRow.cellAt hown' n (by omega)]
          obtain ⟨z, hz⟩ : ∃ z, n = z + 1 := ⟨n - 1, by omega⟩
          have hl := HLAST.out (fun e => hn0 (by rw [HN.out, e]; rfl))
          rw [hz] at hl ⊢
          simp [cellsI] at hl ⊢
          rw [hl]
      obtain ⟨g', cap', w4, hrun, hcX, row4, hg4, hr4⟩ := WAY
      have hv4 := hv.kept hg4 (fun e => by have := hr4 _ e.symm; have := hv.lt; omega)
      have hc4 := hv4.cell
      have hK4 : w4.heap[D]? = some (.deferred (some [])) := (hg4.block D hDW (fun e => by have := hr4 _ e.symm; omega)).trans hK
      have hnn : (n : Int) < (n + 1 : Nat) := by omega
      have hnn2 : (n : Int) < (n : Int) + 1 := by omega
      have e1 : (dnL n 0).map (fun z => Value.int .i64 (oppI (gI p z))) = cellsI (revL p) := by
        rw [← HRV.out]
        simp [cellsI]
      have hl1 : (revL p).length = n := by rw [revL_len]; exact HN.out.symm
      have hrow4 := World.ownsRow.kept hrow hg4 (by
        cases hvb : v.ownBlock
        · exact .inl rfl
        · rename_i q
          refine .inr fun e => ?_
          have h1 := (World.ownsRow.lt hrow q hvb).2
          have h2 := hr4 q e.symm
          omega)
      have hK5 : w4.drew.heap[D]? = some (.deferred (some [])) := hK4
      have hrow5 := ownsRow_putObj (ownsRow_keep hrow4 ((Kp.refl w4).drew)) (.deferred none) hK5 rfl
      have OWNV : Hid (OwnI (w4.drew.putObj D (.deferred none)) w.heap.size v (revL p)) := Lib.hid (by
        have h : OwnI (w4.drew.putObj D (.deferred none)) w1.heap.size v (revL p) := by
          unfold OwnI
          rw [hl1, ← e1]
          exact hrow5
        exact h.base K1.size)
      have KW4 : Kp w w4 := (K1.trans K1W).grown hg4 (fun k e => by have := hr4 k e; have := K1W.size; have := K1.size; omega)
      have KEND : Kp w (w4.drew.putObj D (.deferred none)) := Below.trans (show Below w.heap.size w w4.drew from KW4.drew) ((belowK_b (n₀ := w.heap.size) (w := w) (Nat.le_refl _) w4.drew D _ (.deferred none) (by have := K1.size; omega) hK5 rfl rfl))
      have KE := Lib.hid KEND
      clear hrow4 hrow5 e1 KW4 KEND hrow hv hbs
      gi_wp2_with (refine wpListIn_append_run _ rfl _ _ 29 rfl rfl rfl hrun ?_)
      gi_region
      all_goals
        gi_wp2
        refine ⟨by simp, .inl ⟨_, _, rfl, run_takeDeferred hK5, ?_⟩⟩
        refine ⟨.tuple #[.int .i64 X, v, .bool true], by simp [results, Tryd.results26, go_sem], ?_⟩
        exact ⟨v, rfl, by rw [if_pos rfl]; exact OWNV.out, KE.out⟩
    case stop =>
      rintro D c pre W _ _ h _
      exact h.elim

end Go.Proofs.YtngifnnpimfimaaDoor
