/-
  Texts of this seat in one module: DiL, DiW, Hem.
-/
import Derived.Deep.RegionHeld
import Derived.Test.YtbohefollbmhkaaGreatDoorQa
import Derived.Test.YtbohefollbmhkaaGreatDoorQc

/-
  Dice and numbers below another of a seed by the reference; the mix of a list by both sides. Nothing that was there is changed.
-/
namespace Go.Proofs.YtbohefollbmhkaaGreatDoor
open Go.RowKit

theorem dSeed_any (s : Int) (w : World) :
    Calls Tryz.prog 52 #[.int .i64 s] w fun e w' => e = .returned (.bool (seedB s)) ∧ w = w' := by
  have C := Lib.hid (l1In_sp s 0 4611686016279904236 w)
  have hE := Lib.hid (show spB 0 4611686016279904236 s = seedB s from rfl)
  generalize seedB s = X at *
  generalize spB 0 4611686016279904236 s = Y at *
  go_enter Tryz.func52, Tryz.ntmps52
  go_wp2_with fail
  refine C.out.mono ?_
  rintro e1 w1 ⟨rfl, rfl⟩
  go_wp2_with fail
  go_ret
  exact ⟨ret_bool hE.out, rfl⟩

theorem belX (s i n : Int) : belB s i n = (dieB s i && spB 1 1000000 n) := by simp [belB, dieB, Bool.and_assoc]
theorem dicX (s i n : Int) : dicB s i n = (dieB s i && (spB 0 8 n && decide (i + n ≤ 1000001))) := by simp [dicB, dieB, Bool.and_assoc]

def mixB (l : List Int) : Bool := decide (l.length ≤ 200)
theorem mixNumbersP_any (v : Value) (l : List Int) (w : World) (h : RdI w v l) (hl : l.length ≤ 1048576) (hg : SpanAt w 5 0 200) :
    Calls Tryz.prog 45 #[v] w fun e w' => e = .returned (ib (mixB l) (hashN (mixL l))) ∧ Kp w w' := by
  have HR := Lib.hid h
  have C0 := Lib.hid (has_any 0 200 (l.length : Int) w)
  have hbd := mixL_bd l
  have CM := Lib.hid (fun w h => mixOf_any v l w h hl)
  have CN := Lib.hid (fun w => number_any (mixL l).1 (mixL l).2 w hbd.1 hbd.2.1 hbd.2.2.1 (by omega))
  have hE := Lib.hid (show hashN ((mixL l).1, (mixL l).2) = hashN (mixL l) from rfl)
  rw [hE.out] at CN
  obtain ⟨A, c, rfl, h⟩ := h
  obtain ⟨g0, g1⟩ := hg
  generalize hashN (mixL l) = X at *
  generalize (mixL l).1 = a at *
  generalize (mixL l).2 = b at *
  clear h hE hbd
  by_cases hs : l.length ≤ 200
  · have hO : mixB l = true := by simp [mixB, hs]
    have h0 : spB 0 200 (l.length : Int) = true := by simp [spB]; omega
    rw [hO]
    rw [h0] at C0
    clear hO h0
    generalize l.length = n at *
    go_enter Tryz.func45, Tryz.ntmps45
    go_wp2_with fail
    refine C0.out.mono ?_
    rintro e1 w1 ⟨rfl, k1⟩
    have HR1 := Lib.hid (HR.out.keep k1)
    go_wp2_with fail
    refine (CM.out _ HR1.out).mono ?_
    rintro e2 w2 ⟨rfl, k2⟩
    go_wp2_with fail
    refine (CN.out _).mono ?_
    rintro e3 w3 ⟨rfl, k3⟩
    go_wp2_with fail
    go_ret2
    exact ⟨rfl, (k1.trans k2).trans k3⟩
  · have hO : mixB l = false := by simp [mixB, hs]
    have h0 : spB 0 200 (l.length : Int) = false := by simp [spB]; omega
    rw [hO]
    rw [h0] at C0
    clear hO h0
    generalize l.length = n at *
    go_enter Tryz.func45, Tryz.ntmps45
    go_wp2_with fail
    refine C0.out.mono ?_
    rintro e1 w1 ⟨rfl, k1⟩
    go_wp2_with fail
    go_ret2
    exact ⟨rfl, k1⟩
end Go.Proofs.YtbohefollbmhkaaGreatDoor

/-
  Counts of lists of faces by their sum: both sides' lists of counts. Nothing that was there is changed.
-/
namespace Go.Proofs.YtbohefollbmhkaaGreatDoor
open Go.RowKit

def getI (l : List Int) (k : Nat) : Int := (l[k]?).getD 0
def addF (acc : List Int) (s : Nat) (x : Int) : Nat → List Int
  | 0 => acc
  | z + 1 => (addF acc s x z).set (s + (z + 1)) (getI (addF acc s x z) (s + (z + 1)) + x)
def accL (l : List Int) : Nat → List Int
  | 0 => List.replicate (l.length + 6) 0
  | q + 1 => addF (accL l q) q (getI l q) 6
def waysL : Nat → List Int
  | 0 => [1]
  | n + 1 => accL (waysL n) (waysL n).length
theorem addF_len (acc : List Int) (s : Nat) (x : Int) : ∀ z, (addF acc s x z).length = acc.length
  | 0 => rfl
  | z + 1 => by rw [addF, List.length_set, addF_len acc s x z]
theorem accL_len (l : List Int) : ∀ q, (accL l q).length = l.length + 6
  | 0 => by simp [accL]
  | q + 1 => by rw [accL, addF_len, accL_len l q]
theorem waysL_len : ∀ n, (waysL n).length = 6 * n + 1
  | 0 => rfl
  | n + 1 => by rw [waysL, accL_len, waysL_len n]; omega
/-- All numbers of the list lie in 0..B. -/
def NB (B : Int) (l : List Int) : Prop := ∀ (k : Nat) (x : Int), l[k]? = some x → 0 ≤ x ∧ x ≤ B
theorem NB.get {B : Int} {l : List Int} (h : NB B l) (hB : 0 ≤ B) (k : Nat) : 0 ≤ getI l k ∧ getI l k ≤ B := by
  unfold getI
  cases hk : l[k]?
  · exact ⟨Int.le_refl _, hB⟩
  · exact h k _ hk
theorem NB.le {B C : Int} {l : List Int} (h : NB B l) (hc : B ≤ C) : NB C l := fun k x hx => ⟨(h k x hx).1, Int.le_trans (h k x hx).2 hc⟩
theorem addF_bd {acc : List Int} {C B x : Int} {s : Nat} (hC : 0 ≤ C) (h : NB C acc) (h0 : 0 ≤ x) (h1 : x ≤ B) : ∀ z : Nat, NB (C + (z : Int) * B) (addF acc s x z)
  | 0 => by simpa [addF] using h
  | z + 1 => by
    have ih := addF_bd hC h h0 h1 z (s := s)
    have hz : 0 ≤ (z : Int) * B := Int.mul_nonneg (by omega) (by omega)
    have hg := ih.get (by omega) (s + (z + 1))
    have e : C + ((z + 1 : Nat) : Int) * B = C + (z : Int) * B + B := by rw [Int.natCast_succ, Int.add_mul]; omega
    intro k y hy
    rw [addF, List.getElem?_set] at hy
    rw [e]
    split at hy
    · split at hy
      · obtain rfl := Option.some.inj hy
        omega
      · cases hy
    · have := ih k y hy
      omega
theorem accL_bd {l : List Int} {B : Int} (hB : 0 ≤ B) (h : NB B l) : ∀ q : Nat, NB ((q : Int) * (6 * B)) (accL l q)
  | 0 => by
    intro k x hx
    rw [accL, List.getElem?_replicate] at hx
    split at hx
    · obtain rfl := Option.some.inj hx
      simp
    · cases hx
  | q + 1 => by
    have ih := accL_bd hB h q
    have hg := h.get hB q
    have hq : 0 ≤ (q : Int) * (6 * B) := Int.mul_nonneg (by omega) (by omega)
    have := addF_bd (s := q) hq ih hg.1 hg.2 6
    have e : ((q + 1 : Nat) : Int) * (6 * B) = (q : Int) * (6 * B) + 6 * B := by rw [Int.natCast_succ, Int.add_mul]; omega
    rw [e]
    exact this.le (by omega)
def wbd : Nat → Int
  | 0 => 1
  | n + 1 => (6 * (n : Int) + 1) * (6 * wbd n)
theorem wbd_nonneg : ∀ n, 0 ≤ wbd n
  | 0 => by decide
  | n + 1 => Int.mul_nonneg (by omega) (by have := wbd_nonneg n; omega)
theorem waysL_bd : ∀ n, NB (wbd n) (waysL n)
  | 0 => by
    intro k x hx
    rcases k with _ | k
    · simp [waysL] at hx
      subst hx
      decide
    · simp [waysL] at hx
  | n + 1 => by
    have := accL_bd (wbd_nonneg n) (waysL_bd n) (waysL n).length
    rw [waysL_len] at this
    rw [waysL, wbd, waysL_len]
    exact this.le (by rw [show ((6 * n + 1 : Nat) : Int) = 6 * (n : Int) + 1 by omega]; exact Int.le_refl _)
theorem wbd_le {n : Nat} (h : n ≤ 8) : wbd n ≤ 4000000000000000 := by
  have H : ∀ a : Fin 9, wbd a.val ≤ 4000000000000000 := by decide +kernel
  exact H ⟨n, by omega⟩
/-- What lies in the lists under way is far below the greatest number. -/
theorem step_bd {n q z : Nat} (hn : n ≤ 7) (hq : q ≤ 6 * n + 1) (hz : z ≤ 6) :
    NB 10000000000000000 (addF (accL (waysL n) q) q (getI (waysL n) q) z) ∧ 0 ≤ getI (waysL n) q ∧ getI (waysL n) q ≤ 4000000000000000 := by
  have h0 := wbd_nonneg n
  have h := waysL_bd n
  have hg := h.get h0 q
  have ha := accL_bd h0 h q
  have h8 := wbd_le (n := n + 1) (by omega)
  rw [wbd] at h8
  have h9 := wbd_le (n := n) (by omega)
  have hqq : (q : Int) * (6 * wbd n) ≤ (6 * (n : Int) + 1) * (6 * wbd n) := Int.mul_le_mul_of_nonneg_right (by omega) (by omega)
  have hqp : 0 ≤ (q : Int) * (6 * wbd n) := Int.mul_nonneg (by omega) (by omega)
  have hzz : (z : Int) * wbd n ≤ 6 * wbd n := Int.mul_le_mul_of_nonneg_right (by omega) h0
  have hA := addF_bd (s := q) hqp ha hg.1 hg.2 z
  have h6 : 6 * wbd n ≤ 4000000000000000 := by
    have : 1 * (6 * wbd n) ≤ (6 * (n : Int) + 1) * (6 * wbd n) := Int.mul_le_mul_of_nonneg_right (by omega) (by omega)
    omega
  exact ⟨hA.le (by omega), hg.1, by omega⟩
theorem getI_some {l : List Int} {k : Nat} (h : k < l.length) : l[k]? = some (getI l k) := by
  unfold getI
  rw [List.getElem?_eq_getElem h]
  rfl
theorem OwnI.at {w : World} {base n g cap : Nat} {l : List Int} (h : OwnI w base (.slice (some ⟨g, 0, none⟩) n cap) l) {k : Nat} (hk : k < l.length) : w.cell? ⟨g, k, none⟩ = some (.int .i64 (getI l k)) := by
  obtain ⟨A, c, e, hh⟩ := h.rd
  obtain ⟨g', off, e2, hc⟩ := hh (by omega)
  simp only [Value.slice.injEq] at e
  obtain ⟨rfl, -, -⟩ := e
  simp only [Option.some.injEq, Addr.mk.injEq] at e2
  obtain ⟨rfl, rfl, -⟩ := e2
  have := hc k _ (getI_some hk)
  rwa [Nat.zero_add] at this

end Go.Proofs.YtbohefollbmhkaaGreatDoor

/-
  A region in a drawn order some of whose operations (those of the list zs) undo what the others need: one condition on the world, kept by all other operations as long as none of the list has come up; those of the list wait for whatever is taken first by way of the condition; what yields its value in any world needs no such wait. No program is looked into.
-/
namespace Go.Proofs.YtbohefollbmhkaaGreatDoor
open Go.RowKit

section
variable {P : Program} {ops : Array Oper} {Q : Exit → Act → World → Prop} {md : Region.Mode} {S : World → Prop} {zs : List Nat}

/-- None of the list has come up. -/
def Uz (zs : List Nat) (listed : Array Bool) : Prop := ∀ z ∈ zs, listed.getD z false = false
/-- Whatever order is picked; S holds behind every operation but number z. -/
def wpAnyZ (P : Program) (md : Region.Mode) (ops : Array Oper) (Q : Exit → Act → World → Prop) (S : World → Prop) (zs : List Nat) : Nat → Array Bool → Act → World → Prop
  | 0, listed, a, w => Region.ready md ops listed = [] ∧ Q .normal a w
  | fuel + 1, listed, a, w =>
    (Region.ready md ops listed = [] → Q .normal a w) ∧
    ∀ i ∈ Region.ready md ops listed, wpOp P ops Q i (fun a' w' => (i ∉ zs → Uz zs listed → S w') ∧ wpAnyZ P md ops Q S zs fuel (listed.setIfInBounds i true) a' w') a w
theorem wpAny_of_zs : ∀ (fuel : Nat) (listed : Array Bool) (a : Act) (w : World), wpAnyZ P md ops Q S zs fuel listed a w → wpAny P md ops Q fuel listed a w
  | 0, _, _, _, h => h
  | fuel + 1, _, _, _, h => ⟨h.1, fun i hi => wpOp_mono (fun a' w' h' => wpAny_of_zs fuel _ a' w' h'.2) (h.2 i hi)⟩
/-- Number j waits for number i, by way of others. -/
def waitsN (md : Region.Mode) (ops : Array Oper) : Nat → Nat → Nat → Bool
  | 0, _, _ => false
  | n + 1, j, i => match ops[j]? with
    | none => false
    | some o => o.after.any fun e => Region.binds md e && (e.on == i || waitsN md ops n e.on i)
def AllUp (md : Region.Mode) (listed : Array Bool) (o : Oper) : Prop := ∀ e ∈ o.after, Region.binds md e = true → listed.getD e.on false = true
def ClosedL (md : Region.Mode) (ops : Array Oper) (listed : Array Bool) : Prop := ∀ j o, ops[j]? = some o → listed.getD j false = true → AllUp md listed o
def closedB (md : Region.Mode) (ops : Array Oper) (listed : Array Bool) : Bool :=
  (List.range ops.size).all fun j => !listed.getD j false || match ops[j]? with
    | none => true
    | some o => o.after.all fun e => !Region.binds md e || listed.getD e.on false
theorem closedB_spec {listed : Array Bool} (h : closedB md ops listed = true) : ClosedL md ops listed := fun j o hj hl e he hb => by
  simp only [closedB, List.all_eq_true, List.mem_range] at h
  have h1 := h j (Array.getElem?_eq_some_iff.1 hj).1
  rw [hl, hj] at h1
  simp only [Bool.not_true, Bool.false_or, Array.all_eq_true_iff_forall_mem] at h1
  have h2 := h1 e he
  rw [hb] at h2
  simpa using h2
theorem waits_listed {listed : Array Bool} (hc : ClosedL md ops listed) : ∀ (n j i : Nat) (o : Oper), ops[j]? = some o → waitsN md ops n j i = true → AllUp md listed o → listed.getD i false = true
  | 0, _, _, _, _, h, _ => by cases h
  | n + 1, j, i, o, ho, h, hu => by
    rw [waitsN, ho] at h
    obtain ⟨e, he, hb⟩ := Array.any_eq_true'.1 h
    rw [Bool.and_eq_true, Bool.or_eq_true] at hb
    have hl := hu e he hb.1
    rcases hb.2 with h1 | h1
    · rw [← (by simpa using h1 : e.on = i)]
      exact hl
    · cases hx : ops[e.on]? with
      | none =>
        cases n with
        | zero => cases h1
        | succ n => rw [waitsN, hx] at h1; cases h1
      | some o' => exact waits_listed hc n e.on i o' hx h1 (hc e.on o' hx hl)
theorem closed_set {listed : Array Bool} (hc : ClosedL md ops listed) {j : Nat} (hj : j ∈ Region.ready md ops listed) : ClosedL md ops (listed.setIfInBounds j true) := fun k o hk hl e he hb => by
  obtain ⟨h0, oj, hoj, hall⟩ := mem_ready.1 hj
  by_cases hkj : j = k
  · subst hkj
    rw [hoj] at hk
    cases hk
    exact getD_set_true (hall e he hb)
  · rw [getD_set_ne false hkj] at hl
    exact getD_set_true (hc k o hk hl e he hb)

theorem waits_self {n z : Nat} {listed : Array Bool} (hz : ∀ y ∈ zs, waitsN md ops n y z = true) (hm : z ∈ zs) (hc : ClosedL md ops listed) (hr : z ∈ Region.ready md ops listed) : listed.getD z false = true := by
  obtain ⟨_, oz, hoz, hall⟩ := mem_ready.1 hr
  exact waits_listed hc n z z oz hoz (hz z hm) hall
theorem wpAnyZ_first {n i : Nat} {oi : Oper} {v : Value} (hi : ops[i]? = some oi) (hz : ∀ z ∈ zs, waitsN md ops n z i = true) (hsel : ∀ (j : Nat) (o : Oper) cs b, ops[j]? = some o → o.op ≠ .select cs b)
    (hQ : ∀ c a w, Q (.panic c) (a.put oi.dst v) w → Q (.panic c) a w) :
    ∀ (fuel : Nat) (listed : Array Bool) (a : Act) (w : World), listed.size = ops.size → ClosedL md ops listed →
      (∀ j oj, ops[j]? = some oj → j ≠ i → listed.getD j true = false → (∀ e ∈ oj.after, Region.binds md e = true → e.on ≠ i) → oi.apart ops oj = true) →
      i ∈ Region.ready md ops listed → YieldsIf P ops S oi v a → S w →
      wpAnyZ P md ops Q S zs fuel (listed.setIfInBounds i true) (a.put oi.dst v) w → wpAnyZ P md ops Q S zs (fuel + 1) listed a w := by
  intro fuel
  induction fuel with
  | zero =>
    intro listed a w hsz _ _ hr hy hS H
    refine ⟨fun h => (by rw [h] at hr; cases hr), fun j hj => ?_⟩
    by_cases hji : j = i
    · subst hji; exact hy.wpOp hi hS ⟨fun _ _ => hS, H⟩
    · have := ready_mono hj hji
      rw [H.1] at this
      cases this
  | succ fuel ih =>
    intro listed a w hsz hc hfree hr hy hS H
    refine ⟨fun h => (by rw [h] at hr; cases hr), fun j hj => ?_⟩
    by_cases hji : j = i
    · subst hji; exact hy.wpOp hi hS ⟨fun _ _ => hS, H⟩
    · have h1 := H.2 j (ready_mono hj hji)
      obtain ⟨hjun, oj, hoj, hall⟩ := mem_ready.1 hj
      have hun : ¬ listed.getD i false = true := fun h1 => by
        have h0 := (mem_ready.1 hr).1
        rcases Nat.lt_or_ge i listed.size with h' | h'
        · simp [h'] at h0 h1; rw [h0] at h1; cases h1
        · simp [Array.getElem?_eq_none h'] at h1
      have hnot : ∀ e ∈ oj.after, Region.binds md e = true → e.on ≠ i := fun e he hb heq => by
        have h1 := hall e he hb
        rw [heq] at h1
        exact hun h1
      have hjz : j ∉ zs := fun e => hun (waits_listed hc n j i oj hoj (hz j e) hall)
      have hU : Uz zs (listed.setIfInBounds i true) := fun z hzm => by
        have hzi : z ≠ i := fun e => by
          subst e
          exact hun (waits_self hz hzm hc hr)
        rw [getD_set_ne false (Ne.symm hzi)]
        cases hzl : listed.getD z false with
        | false => rfl
        | true =>
          have hlt : z < ops.size := by
            rcases Nat.lt_or_ge z listed.size with h' | h'
            · rw [hsz] at h'
              exact h'
            · simp [Array.getElem?_eq_none h'] at hzl
          exact absurd (waits_listed hc n z i ops[z] (Array.getElem?_eq_getElem hlt) (hz z hzm) (hc z ops[z] (Array.getElem?_eq_getElem hlt) hzl)) hun
      have h2 := wpOp_putIf hoj (hfree j oj hoj hji hjun hnot) (fun cs b => hsel i oi cs b hi) (fun cs b => hsel j oj cs b hoj) hQ hy h1
      have hfree' : ∀ k ok, ops[k]? = some ok → k ≠ i → (listed.setIfInBounds j true).getD k true = false →
          (∀ e ∈ ok.after, Region.binds md e = true → e.on ≠ i) → oi.apart ops ok = true := fun k ok hk hki hun hno => by
        refine hfree k ok hk hki ?_ hno
        by_cases hjk : j = k
        · subst hjk; exact hjun
        · rw [getD_set_ne true hjk] at hun; exact hun
      refine wpOp_mono (fun a' w' h3 => ⟨fun _ _ => h3.2.1 hjz hU, ih (listed.setIfInBounds j true) a' w' (by simpa using hsz) (closed_set hc hj) hfree' (ready_mono hr (Ne.symm hji)) h3.1 (h3.2.1 hjz hU) ?_⟩) h2
      rw [Array.setIfInBounds_comm _ _ hji]
      exact h3.2.2
/-- What yields its value in any world: it needs not be waited for. -/
theorem wpAnyZ_any {i : Nat} {oi : Oper} {v : Value} (hi : ops[i]? = some oi) (hz : i ∉ zs) (hsel : ∀ (j : Nat) (o : Oper) cs b, ops[j]? = some o → o.op ≠ .select cs b)
    (hQ : ∀ c a w, Q (.panic c) (a.put oi.dst v) w → Q (.panic c) a w) :
    ∀ (fuel : Nat) (listed : Array Bool) (a : Act) (w : World), listed.size = ops.size →
      (∀ j oj, ops[j]? = some oj → j ≠ i → listed.getD j true = false → (∀ e ∈ oj.after, Region.binds md e = true → e.on ≠ i) → oi.apart ops oj = true) →
      i ∈ Region.ready md ops listed → YieldsIf P ops (fun _ => True) oi v a → (Uz zs listed → S w) →
      wpAnyZ P md ops Q S zs fuel (listed.setIfInBounds i true) (a.put oi.dst v) w → wpAnyZ P md ops Q S zs (fuel + 1) listed a w := by
  intro fuel
  induction fuel with
  | zero =>
    intro listed a w hsz _ hr hy hS H
    refine ⟨fun h => (by rw [h] at hr; cases hr), fun j hj => ?_⟩
    by_cases hji : j = i
    · subst hji; exact hy.wpOp hi trivial ⟨fun _ => hS, H⟩
    · have := ready_mono hj hji
      rw [H.1] at this
      cases this
  | succ fuel ih =>
    intro listed a w hsz hfree hr hy hS H
    refine ⟨fun h => (by rw [h] at hr; cases hr), fun j hj => ?_⟩
    by_cases hji : j = i
    · subst hji; exact hy.wpOp hi trivial ⟨fun _ => hS, H⟩
    · have h1 := H.2 j (ready_mono hj hji)
      obtain ⟨hjun, oj, hoj, hall⟩ := mem_ready.1 hj
      have hun : ¬ listed.getD i false = true := fun h1 => by
        have h0 := (mem_ready.1 hr).1
        rcases Nat.lt_or_ge i listed.size with h' | h'
        · simp [h'] at h0 h1; rw [h0] at h1; cases h1
        · simp [Array.getElem?_eq_none h'] at h1
      have hnot : ∀ e ∈ oj.after, Region.binds md e = true → e.on ≠ i := fun e he hb heq => by
        have h1 := hall e he hb
        rw [heq] at h1
        exact hun h1
      have hU : Uz zs listed → Uz zs (listed.setIfInBounds i true) := fun h z hzm => by
        have hne : i ≠ z := fun e => hz (by rw [e]; exact hzm)
        rw [getD_set_ne false hne]
        exact h z hzm
      have h2 := wpOp_putIf hoj (hfree j oj hoj hji hjun hnot) (fun cs b => hsel i oi cs b hi) (fun cs b => hsel j oj cs b hoj) hQ hy h1
      have hfree' : ∀ k ok, ops[k]? = some ok → k ≠ i → (listed.setIfInBounds j true).getD k true = false →
          (∀ e ∈ ok.after, Region.binds md e = true → e.on ≠ i) → oi.apart ops ok = true := fun k ok hk hki hun hno => by
        refine hfree k ok hk hki ?_ hno
        by_cases hjk : j = k
        · subst hjk; exact hjun
        · rw [getD_set_ne true hjk] at hun; exact hun
      refine wpOp_mono (fun a' w' h3 => ⟨fun hjz hu => h3.2.1 hjz (hU hu), ih (listed.setIfInBounds j true) a' w' (by simpa using hsz) hfree' (ready_mono hr (Ne.symm hji)) h3.1 (fun hu => ?_) ?_⟩) h2
      · have hjs : j < listed.size := by
          rw [hsz]
          exact (Array.getElem?_eq_some_iff.1 hoj).1
        have hjz : j ∉ zs := fun e => by
          have := hu j e
          simp [hjs] at this
        refine h3.2.1 hjz (hU fun z hzm => ?_)
        have hne : j ≠ z := fun e => hjz (by rw [e]; exact hzm)
        have := hu z hzm
        rwa [getD_set_ne false hne] at this
      · rw [Array.setIfInBounds_comm _ _ hji]
        exact h3.2.2
/-- Take number i first. -/
theorem wpAnyZ_take {i : Nat} {oi : Oper} {v : Value} {fuel : Nat} {listed : Array Bool} {a : Act} {w : World} (hi : ops[i]? = some oi)
    (hz : (zs.all fun z => waitsN md ops ops.size z i) = true) (hcl : closedB md ops listed = true) (hsz : listed.size = ops.size) (hs : Region.noSelect ops = true) (hf : Region.free md ops listed i = true) (hr : (Region.ready md ops listed).contains i = true)
    (hQ : ∀ c a w, Q (.panic c) (a.put oi.dst v) w → Q (.panic c) a w) (hy : YieldsIf P ops S oi v a) (hS : S w)
    (h : wpAnyZ P md ops Q S zs fuel (listed.setIfInBounds i true) (a.put oi.dst v) w) : wpAnyZ P md ops Q S zs (fuel + 1) listed a w :=
  wpAnyZ_first hi (fun z h => List.all_eq_true.1 hz z h) (Region.noSelect_spec hs) hQ fuel listed a w hsz (closedB_spec hcl) (Region.free_spec hi hf) (by simpa using hr) hy hS h
/-- Take number i first: it yields its value in any world. -/
theorem wpAnyZ_free {i : Nat} {oi : Oper} {v : Value} {fuel : Nat} {listed : Array Bool} {a : Act} {w : World} (hi : ops[i]? = some oi)
    (hz : zs.contains i = false) (hsz : listed.size = ops.size) (hs : Region.noSelect ops = true) (hf : Region.free md ops listed i = true) (hr : (Region.ready md ops listed).contains i = true)
    (hQ : ∀ c a w, Q (.panic c) (a.put oi.dst v) w → Q (.panic c) a w) (hy : YieldsIf P ops (fun _ => True) oi v a) (hS : S w)
    (h : wpAnyZ P md ops Q S zs fuel (listed.setIfInBounds i true) (a.put oi.dst v) w) : wpAnyZ P md ops Q S zs (fuel + 1) listed a w :=
  wpAnyZ_any hi (by simpa using hz) (Region.noSelect_spec hs) hQ fuel listed a w hsz (Region.free_spec hi hf) (by simpa using hr) hy (fun _ => hS) h
def AllReadyZ (P : Program) (md : Region.Mode) (ops : Array Oper) (Q : Exit → Act → World → Prop) (S : World → Prop) (zs : List Nat) (fuel : Nat) (listed : Array Bool) (a : Act) (w : World) (rs : List Nat) : Prop :=
  ∀ i ∈ rs, wpOp P ops Q i (fun a' w' => (i ∉ zs → Uz zs listed → S w') ∧ wpAnyZ P md ops Q S zs fuel (listed.setIfInBounds i true) a' w') a w
theorem AllReadyZ.nil {fuel : Nat} {listed : Array Bool} {a : Act} {w : World} : AllReadyZ P md ops Q S zs fuel listed a w [] := fun _ h => by cases h
theorem AllReadyZ.cons {fuel : Nat} {listed : Array Bool} {a : Act} {w : World} {i : Nat} {o : Oper} {rs : List Nat} (ho : ops[i]? = some o)
    (h : ∀ K' : Act → World → Prop, Shut (∀ a w, S w → (S w → wpAnyZ P md ops Q S zs fuel (listed.setIfInBounds i true) a w) → K' a w) → if Region.wanted o (yielded ops a.tmps) = true then Oper.wp P o a w K' Q else K' (a.put o.dst undef) w)
    (hs : AllReadyZ P md ops Q S zs fuel listed a w rs) : AllReadyZ P md ops Q S zs fuel listed a w (i :: rs) := fun j hj => by
  rcases List.mem_cons.1 hj with rfl | hj
  · exact wpOp_step ho (fun K' hK => h K' (fun a w hS hW => hK a w ⟨fun _ _ => hS, hW hS⟩))
  · exact hs j hj
/-- One of zs. -/
theorem AllReadyZ.last {fuel : Nat} {listed : Array Bool} {a : Act} {w : World} {z : Nat} {o : Oper} {rs : List Nat} (hz : z ∈ zs) (ho : ops[z]? = some o)
    (h : ∀ K' : Act → World → Prop, Shut (∀ a w, wpAnyZ P md ops Q S zs fuel (listed.setIfInBounds z true) a w → K' a w) → if Region.wanted o (yielded ops a.tmps) = true then Oper.wp P o a w K' Q else K' (a.put o.dst undef) w)
    (hs : AllReadyZ P md ops Q S zs fuel listed a w rs) : AllReadyZ P md ops Q S zs fuel listed a w (z :: rs) := fun j hj => by
  rcases List.mem_cons.1 hj with rfl | hj
  · exact wpOp_step ho (fun K' hK => h K' (fun a w hW => hK a w ⟨fun e => absurd hz e, hW⟩))
  · exact hs j hj
theorem wpAnyZ_ready {rs : List Nat} {fuel : Nat} {listed : Array Bool} {a : Act} {w : World} (hr : Region.ready md ops listed = rs) (hne : rs ≠ [])
    (h : AllReadyZ P md ops Q S zs fuel listed a w rs) : wpAnyZ P md ops Q S zs (fuel + 1) listed a w := ⟨fun h0 => absurd (hr ▸ h0) hne, hr ▸ h⟩
theorem wpAnyZ_done {listed : Array Bool} {a : Act} {w : World} (hr : Region.ready md ops listed = []) (h : Q .normal a w) :
    ∀ fuel, wpAnyZ P md ops Q S zs fuel listed a w
  | 0 => ⟨hr, h⟩
  | _ + 1 => ⟨fun _ => h, by rw [hr]; simp⟩
theorem wp_region_zs {id : Nat} {a : Act} {w : World} (zs : List Nat) (hm : P.follows .mixedOrders = true) (hS : S w.drew)
    (h : S w.drew → wpAnyZ P .any ops Q S zs ops.size (Array.replicate ops.size false) a w.drew) : (Code.region id ops true).wp P Q a w :=
  wp_region_any hm (wpAny_of_zs _ _ _ _ (h hS))
end

end Go.Proofs.YtbohefollbmhkaaGreatDoor
