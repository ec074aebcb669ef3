/-
  The law on rings holds at all bytes: rings, disks, walks and nearest hexes at drawn hexes are the reference's; a ring's hexes are as far as the radius, a disk has its number of hexes. The table of directions holds what the program's text lays (the card ties it).
-/
import Derived.Test.YtmodcmkmfedgoaaDoorRgM
import Derived.Test.YtmodcmkmfedgoaaDoorDrJ
import Derived.Test.YtmodcmkmfedgoaaDoorTab
import Derived.Test.YtmodcmkmfedgoaaDoorRingImpl
import Derived.Test.YtmodcmkmfedgoaaDoorRingSpec
import Derived.Test.YtmodcmkmfedgoaaDoorDiskImpl
import Derived.Test.YtmodcmkmfedgoaaDoorDiskSpec
import Derived.Test.YtmodcmkmfedgoaaDoorWalkImpl
import Derived.Test.YtmodcmkmfedgoaaDoorWalkSpec
import Derived.Test.YtmodcmkmfedgoaaDoorNearImpl
import Derived.Test.YtmodcmkmfedgoaaDoorNearSpec
import Derived.ChangeSlices
import Derived.OpenShut
namespace Go.Proofs.YtmodcmkmfedgoaaDoor.fnRingsLaw
open Go.ChangeShapes Go.WideShapes Go.ChangeAt Go.RowKit Go.Joins

theorem cellsByte : Tryd.prog.cellsOf 5 = 1 := by kernel_rfl
set_option maxRecDepth 100000 in
/-- An argument that is a slice of bytes. -/
theorem rdBy_of_trod {H : Type} {enc : TypeId × Value → H} {W : World} {base : Nat} {v : Value} {d : DataW H} {p : List MemPlace}
    (hv : Value.okWide Tryd.prog W .any base 22 v) (h : DataW.Trod enc Tryd.prog W 0 (fun _ => true) true 22 v d p) : ∃ A n c, v = .slice A n c ∧ RdBy W A n ∧ n ≤ 9223372036854775807 := by
  obtain ⟨a0, len, cap, rfl⟩ := okWide_slice Tryd.underlying22 hv
  obtain ⟨fuel, hf⟩ := h
  rcases open_ints Tryd.underlying22 Tryd.underlying5 cellsByte hf with ⟨hcs, hx⟩ | ⟨a, len', cap', zs, hcs, _, hl, hm, hz, hx, hcell, hwz⟩
  · simp only [Value.cells, List.cons.injEq, Value.slice.injEq, and_true] at hcs
    obtain ⟨rfl, rfl, rfl⟩ := hcs
    exact ⟨none, 0, 0, rfl, fun h0 => absurd h0 (by omega), by omega⟩
  · simp only [Value.cells, List.cons.injEq, Value.slice.injEq, and_true] at hcs
    obtain ⟨rfl, rfl, rfl⟩ := hcs
    have hzl : len ≤ zs.length := by rw [hz]; simpa using hl
    refine ⟨some a, len, cap, rfl, fun h0 => ?_, by unfold maxLen at hm; omega⟩
    obtain ⟨b, off, rfl, hc⟩ := ints_at hcell (by omega)
    refine ⟨b, off, rfl, fun i hi => ?_⟩
    have hil : i < zs.length := by omega
    have hb := bounds_u8 (hwz (zs.getD i 0) (by rw [List.getD_eq_getElem?_getD, List.getElem?_eq_getElem hil]; exact List.getElem_mem hil))
    exact ⟨_, hb.1, hb.2, hc i hil⟩
theorem big_any (A1 A2 : Option Addr) (n1 c1 n2 c2 : Nat) (w : World) (h1 : n1 ≤ 9223372036854775807) (h2 : n2 ≤ 9223372036854775807) :
    Calls Tryd.prog 4 #[.slice A1 n1 c1, .slice A2 n2 c2] w fun e w' => e = .returned (.bool (decide (¬ n1 + n2 ≤ 1048576))) ∧ w = w' := by
  by_cases ha : n1 ≤ 1048576
  · have ha' : (n1 : Int) ≤ 1048576 := by omega
    have ew : IntKind.i64.wrap (1048576 - (n1 : Int)) = 1048576 - (n1 : Int) := IntWalk.i64_in _ (by omega)
    by_cases hb : n1 + n2 ≤ 1048576
    · have hb' : (n2 : Int) ≤ 1048576 - (n1 : Int) := by omega
      have hO : decide (¬ n1 + n2 ≤ 1048576) = false := by simpa using hb
      rw [hO]
      clear hO
      go_enter Tryd.func4, Tryd.ntmps4
      go_wp2_with fail
      go_ret
      exact ⟨by first | rfl | exact ret_bool (by simp; omega), rfl⟩
    · have hb' : 1048576 - (n1 : Int) < (n2 : Int) := by omega
      have hO : decide (¬ n1 + n2 ≤ 1048576) = true := by simpa using hb
      rw [hO]
      clear hO
      go_enter Tryd.func4, Tryd.ntmps4
      go_wp2_with fail
      go_ret
      exact ⟨by first | rfl | exact ret_bool (by simp; omega), rfl⟩
  · have ha' : 1048576 < (n1 : Int) := by omega
    have hO : decide (¬ n1 + n2 ≤ 1048576) = true := by simp; omega
    rw [hO]
    clear hO
    go_enter Tryd.func4, Tryd.ntmps4
    go_wp2_with fail
    go_ret
    exact ⟨by first | rfl | exact ret_bool (by simp; omega), rfl⟩


theorem pSameHexes_any (va vb : Value) (l : List (Int × Int)) (w : World) (ha : RdH w va l) (hb : RdH w vb l) (hl : l.length ≤ 1048576) :
    Calls Tryd.prog 8 #[va, vb] w fun e w' => e = .returned (.bool true) ∧ Kp w w' := by
  obtain ⟨A, ca, rfl, ha⟩ := ha
  obtain ⟨B, cb, rfl, hb⟩ := hb
  have HA := Lib.hid ha
  have HB := Lib.hid hb
  clear ha hb
  generalize hn : l.length = n at *
  have HN := Lib.hid hn
  clear hn
  have hne : ((n : Int) != (n : Int)) = false := by simp
  go_enter Tryd.func8, Tryd.ntmps8
  go_wp2_with fail
  go_loopw [13] (fun i wr => ∃ k : Nat, k ≤ n ∧ i = .int .i64 k ∧ Kp w wr) (fun i _ => n - (intOf i).toNat)
  case atStart => exact ⟨0, by omega, rfl, Kp.refl _⟩
  case round =>
    obtain ⟨k, hk, rfl, kr⟩ := hrel
    by_cases hlt : k < n
    · obtain ⟨ga, oa, rfl, ca'⟩ := HA.out (by omega)
      obtain ⟨gb, ob, rfl, cb'⟩ := HB.out (by omega)
      obtain ⟨x, hx⟩ : ∃ x, l[k]? = some x := ⟨l[k]'(by have := HN.out; omega), List.getElem?_eq_getElem _⟩
      have a0 := kr.cell (ca' k x hx).1
      have a1 := kr.cell (ca' k x hx).2
      have b0 := kr.cell (cb' k x hx).1
      have b1 := kr.cell (cb' k x hx).2
      clear ca' cb' hx
      obtain ⟨px, py⟩ := x
      simp only at a0 a1 b0 b1
      have hlt' : (k : Int) < n := by omega
      go_wp2_with fail
      go_quiet (fail)
      go_wp2_with fail
      go_roundw
      case rel => exact ⟨k + 1, by omega, by go_num, kr.drewN _⟩
      case measure => simp [intOf]; omega
    · obtain rfl : k = n := by omega
      go_wp2_with fail
      go_ret
      exact ⟨rfl, kr⟩

/-- A list of hexes and a bool returned. -/
def LP (L : List (Int × Int)) (B : Bool) (w : World) (e : Ending) (w' : World) : Prop := ∃ v, e = .returned (.tuple #[v, .bool B]) ∧ RdH w' v L ∧ Kp w w'
theorem lp_of {ok : Bool} {l : List (Int × Int)} {w : World} {e : Ending} {w' : World} (h : ListPost ok l w e w') : LP (if ok = true then l else []) ok w e w' := by
  obtain ⟨v, h1, h2, h3⟩ := h
  exact ⟨v, h1, h2.rd, h3⟩
theorem ring_short (m : Nat) (q r : Int) (h : m ≤ 6) : (ringL m q r).length ≤ 100 := by
  unfold ringL
  split
  · simp
  · rw [ringUp_length]; omega
theorem ring_all (q r n : Int) : ∃ (L : List (Int × Int)) (B : Bool), L.length ≤ 100 ∧
    (∀ w, Tab w → Calls Tryd.prog 6 #[hx q r, .int .i64 n] w (LP L B w)) ∧
    (∀ w, Calls Tryd.prog 7 #[hx q r, .int .i64 n] w (LP L B w)) ∧
    (∀ (i : Nat) (x : Int × Int), L[i]? = some x → ∀ w, Calls Tryd.prog 9 #[hx q r, hx x.1 x.2] w fun e w' => e = .returned (.tuple #[.int .i64 n, .bool true]) ∧ Kp w w') := by
  refine ⟨if ringOk q r n = true then ringL n.toNat q r else [], ringOk q r n, ?_, fun w ht => (ringOf_any q r n w ht).mono fun e w' h => lp_of h, fun w => (specRingOf_any q r n w).mono fun e w' h => lp_of h, fun i x hx w => ?_⟩
  · split
    · rename_i h
      simp only [ringOk, Bool.and_eq_true, decide_eq_true_eq] at h
      exact ring_short _ _ _ (by omega)
    · simp
  · cases hB : ringOk q r n
    · rw [hB] at hx
      simp at hx
    · rw [hB, if_pos rfl] at hx
      obtain ⟨e1, e2⟩ := ring_far hB hx
      have c := distanceOf_any q r x.1 x.2 w
      rw [e1, e2] at c
      exact c
theorem disk_all (q r n : Int) : ∃ (L : List (Int × Int)) (B : Bool), L.length ≤ 1000 ∧
    (∀ w, Calls Tryd.prog 10 #[hx q r, .int .i64 n] w (LP L B w)) ∧
    (∀ w, Calls Tryd.prog 11 #[hx q r, .int .i64 n] w (LP L B w)) ∧
    (B = true → (0 ≤ n ∧ n ≤ 6) ∧ (L.length : Int) = 3 * n * (n + 1) + 1) := by
  refine ⟨if diskOk q r n = true then diskL n.toNat q r else [], diskOk q r n, ?_, fun w => (diskOf_any q r n w).mono fun e w' h => lp_of h, fun w => (specDiskOf_any q r n w).mono fun e w' h => lp_of h, fun h => ?_⟩
  · cases hB : diskOk q r n
    · simp
    · rw [if_pos rfl]
      obtain ⟨⟨h0, h6⟩, e⟩ := disk_size hB
      have : n = 0 ∨ n = 1 ∨ n = 2 ∨ n = 3 ∨ n = 4 ∨ n = 5 ∨ n = 6 := by omega
      rcases this with rfl | rfl | rfl | rfl | rfl | rfl | rfl <;> omega
  · rw [h, if_pos rfl]
    exact disk_size h
theorem walk_all (q r : Int) (v : Value) (l : List Int) (hl : l.length ≤ 100) : ∃ (L : List (Int × Int)) (B : Bool), L.length ≤ 100 ∧
    (∀ w, Tab w → RdI w v l → Calls Tryd.prog 13 #[hx q r, v] w (LP L B w)) ∧
    (∀ w, RdI w v l → Calls Tryd.prog 14 #[hx q r, v] w (LP L B w)) := by
  refine ⟨if walkOk l q r = true then walkUp l q r l.length else [], walkOk l q r, ?_, fun w ht h => (walkFrom_any q r v l w ht h (by omega)).mono fun e w' h => lp_of h, fun w h => (specWalkFrom_any q r v l w h (by omega)).mono fun e w' h => lp_of h⟩
  split
  · rw [walkUp_length]; exact hl
  · simp

set_option maxRecDepth 100000 in
set_option maxHeartbeats 32000000 in
theorem walk (A1 A2 : Option Addr) (n1 c1 n2 c2 : Nat) (w : World) (hb1 : RdBy w A1 n1) (hb2 : RdBy w A2 n2) (h1 : n1 ≤ 9223372036854775807) (h2 : n2 ≤ 9223372036854775807) (ht : Tab w) :
    Calls Tryd.prog 3 #[.slice A1 n1 c1, .slice A2 n2 c2] w fun e' w' => e' = .returned (.bool true) ∧ Kp w w' := by
  have CB := Lib.hid (big_any A1 A2 n1 c1 n2 c2 w h1 h2)
  have HB1 := Lib.hid hb1
  have HB2 := Lib.hid hb2
  have HT := Lib.hid ht
  clear hb1 hb2 ht
  by_cases hbig : ¬ n1 + n2 ≤ 1048576
  · rw [decide_eq_true hbig] at CB
    go_enter Tryd.func3, Tryd.ntmps3
    go_wp2_with fail
    refine CB.out.mono ?_
    rintro e0 w0 ⟨rfl, rfl⟩
    go_wp2_with fail
    go_ret
    exact ⟨rfl, Kp.refl _⟩
  rw [decide_eq_false hbig] at CB
  clear hbig
  go_enter Tryd.func3, Tryd.ntmps3
  go_wp2_with fail
  refine CB.out.mono ?_
  rintro e0 w0 ⟨rfl, rfl⟩
  clear CB
  go_wp2_with fail
  refine (drawRingOf_any A1 n1 c1 w HB1.out h1).mono ?_
  rintro e1 w1 ⟨q, r, n, rfl, k1⟩
  have K1 := Lib.hid (k1.alloc (.cells #[.int .i64 q, .int .i64 r] 25))
  have s1 : (w1.alloc (.cells #[.int .i64 q, .int .i64 r] 25)).cell? ⟨w1.heap.size, 0, none⟩ = some (.int .i64 q) ∧ (w1.alloc (.cells #[.int .i64 q, .int .i64 r] 25)).cell? ⟨w1.heap.size, 1, none⟩ = some (.int .i64 r) := by simp [go_sem]
  clear k1
  go_upto_region 4 with fail
  obtain ⟨p5, hp5⟩ : ∃ b, b = w1.heap.size := ⟨_, rfl⟩
  rw [← hp5] at s1 ⊢
  generalize w1.alloc (.cells #[.int .i64 q, .int .i64 r] 25) = W1 at *
  clear hp5
  obtain ⟨L, B, hll, hR1, hR2, hR3⟩ := ring_all q r n
  have HR1 := Lib.hid hR1
  have HR2 := Lib.hid hR2
  have HR3 := Lib.hid hR3
  have HLL := Lib.hid hll
  have eB : (B != B) = false := by simp
  have en : (n != n) = false := by simp
  clear hR1 hR2 hR3 hll
  unfold LP at HR1 HR2
  go_wp2_with fail
  refine (HR1.out _ (HT.out.keep K1.out)).mono ?_
  rintro e2 w2 ⟨v2, rfl, r2, k2⟩
  have s2 := k2.two s1
  have R2 := Lib.hid r2
  have K2 := Lib.hid (K1.out.trans k2)
  clear r2 k2 s1 K1 HR1
  go_wp2_with fail
  refine (HR2.out _).mono ?_
  rintro e3 w3 ⟨v3, rfl, r3, k3⟩
  have s3 := k3.two s2
  have R2' := Lib.hid (R2.out.keep k3)
  have R3 := Lib.hid r3
  have K3 := Lib.hid (K2.out.trans k3)
  clear r3 k3 s2 K2 HR2 R2
  go_wp2_with fail
  refine (pSameHexes_any v2 v3 L _ R2'.out R3.out (by have := HLL.out; omega)).mono ?_
  rintro e4 w4 ⟨rfl, k4⟩
  have s4 := k4.two s3
  have R4 := Lib.hid (R3.out.keep k4)
  have K4 := Lib.hid (K3.out.trans k4)
  obtain ⟨A4, c4, hv3, -⟩ := R4.out
  subst hv3
  clear s3 k4 K3 R3 R2' eB
  obtain ⟨q0, hq0⟩ : ∃ q, L.length = q := ⟨_, rfl⟩
  have HQ := Lib.hid hq0
  rw [hq0] at R4 ⊢
  clear hq0
  have hq100 : q0 ≤ 100 := by
    have h8 := HLL.out
    have h9 := HQ.out
    omega
  go_wp2_with fail
  go_loopw [12, 13, 14, 62] (fun _ _ _ iv wr => ∃ k : Nat, k ≤ q0 ∧ iv = .int .i64 k ∧ Kp w4 wr) (fun _ _ _ iv _ => q0 - (intOf iv).toNat)
  case atStart => exact ⟨0, by omega, rfl, Kp.refl _⟩
  case round =>
    obtain ⟨k, hk, rfl, kr⟩ := hrel
    have sr := kr.two s4
    by_cases hlt : k < q0
    · have hlt' : (k : Int) < q0 := by omega
      obtain ⟨A5, c5, hv5, hA⟩ := R4.out
      simp only [Value.slice.injEq] at hv5
      obtain ⟨rfl, -, rfl⟩ := hv5
      obtain ⟨g, off, rfl, hc⟩ := hA (by rw [HQ.out]; omega)
      obtain ⟨x, hx⟩ : ∃ x, L[k]? = some x := ⟨L[k]'(by have := HQ.out; omega), List.getElem?_eq_getElem _⟩
      have a0 := kr.cell (hc k x hx).1
      have a1 := kr.cell (hc k x hx).2
      have HD := Lib.hid (HR3.out k x hx)
      clear hc hA hx
      obtain ⟨px, py⟩ := x
      simp only at a0 a1 HD
      have ka := (Kp.refl wr).alloc (.cells #[.int .i64 px, .int .i64 py] 25)
      have sa := ka.two sr
      have xa : (wr.alloc (.cells #[.int .i64 px, .int .i64 py] 25)).cell? ⟨wr.heap.size, 0, none⟩ = some (.int .i64 px) ∧ (wr.alloc (.cells #[.int .i64 px, .int .i64 py] 25)).cell? ⟨wr.heap.size, 1, none⟩ = some (.int .i64 py) := by simp [go_sem]
      have KA := Lib.hid (kr.trans ka)
      clear ka
      go_upto_region 11 with fail
      obtain ⟨p12, hp12⟩ : ∃ b, b = wr.heap.size := ⟨_, rfl⟩
      rw [← hp12] at xa ⊢
      generalize wr.alloc (.cells #[.int .i64 px, .int .i64 py] 25) = WA at *
      clear hp12 a0 a1 sr
      go_wp2_with fail
      refine (HD.out _).mono ?_
      rintro e5 w5 ⟨rfl, k5⟩
      have K5 := KA.out.trans k5
      clear k5 KA HD sa xa
      go_wp2_with fail
      go_roundw
      case rel => exact ⟨k + 1, by omega, by go_num, K5⟩
      case measure => simp [intOf]; omega
    · obtain rfl : k = q0 := by omega
      have K5 := Lib.hid (K4.out.trans kr)
      clear K4 kr s4 R4 HR3 HQ HLL
      obtain ⟨L2, B2, hl2, hD1, hD2, hD3⟩ := disk_all q r n
      have HD1 := Lib.hid hD1
      have HD2 := Lib.hid hD2
      have HD3 := Lib.hid hD3
      have HL2 := Lib.hid hl2
      have eB2 : (B2 != B2) = false := by simp
      clear hD1 hD2 hD3 hl2
      unfold LP at HD1 HD2
      go_wp2_with fail
      refine (HD1.out _).mono ?_
      rintro e6 w6 ⟨v6, rfl, r6, k6⟩
      have s6 := k6.two sr
      have R6 := Lib.hid r6
      have K6 := Lib.hid (K5.out.trans k6)
      clear r6 k6 sr K5 HD1
      go_wp2_with fail
      refine (HD2.out _).mono ?_
      rintro e7 w7 ⟨v7, rfl, r7, k7⟩
      have R6' := Lib.hid (R6.out.keep k7)
      have R7 := Lib.hid r7
      have K7 := Lib.hid (K6.out.trans k7)
      clear r7 k7 s6 K6 HD2 R6
      obtain ⟨A6, c6, hv6, -⟩ := R6'.out
      subst hv6
      have CE := Lib.hid (pSameHexes_any _ v7 L2 w7 R6'.out R7.out (by have := HL2.out; omega))
      clear R6' R7 HL2
      cases B2
      · clear HD3
        go_wp2_with fail
        refine CE.out.mono ?_
        rintro e8 w8 ⟨rfl, k8⟩
        have K8 := Lib.hid (K7.out.trans k8)
        clear k8 K7 CE eB2
        go_wp2_with fail
        refine (drawWalkFrom_any A2 n2 c2 w8 (HB2.out.keep K8.out) h2).mono ?_
        rintro e9 w9 ⟨gq, gr, v9, l9, rfl, r9, hl9, -, k9⟩
        have ka := (Kp.refl w9).alloc (.cells #[.int .i64 gq, .int .i64 gr] 25)
        have K9 := Lib.hid (K8.out.trans (k9.trans ka))
        have R9 := Lib.hid (r9.keep ka)
        have s9 : (w9.alloc (.cells #[.int .i64 gq, .int .i64 gr] 25)).cell? ⟨w9.heap.size, 0, none⟩ = some (.int .i64 gq) ∧ (w9.alloc (.cells #[.int .i64 gq, .int .i64 gr] 25)).cell? ⟨w9.heap.size, 1, none⟩ = some (.int .i64 gr) := by simp [go_sem]
        obtain ⟨L3, B3, hl3, hW1, hW2⟩ := walk_all gq gr v9 l9 hl9
        have HW1 := Lib.hid hW1
        have HW2 := Lib.hid hW2
        have HL3 := Lib.hid hl3
        have eB3 : (B3 != B3) = false := by simp
        clear hW1 hW2 hl3 k9 ka r9 K8
        unfold LP at HW1 HW2
        go_upto_region 20 with fail
        obtain ⟨p19, hp19⟩ : ∃ b, b = w9.heap.size := ⟨_, rfl⟩
        rw [← hp19] at s9 ⊢
        generalize w9.alloc (.cells #[.int .i64 gq, .int .i64 gr] 25) = W9 at *
        clear hp19
        go_wp2_with fail
        refine (HW1.out _ (HT.out.keep K9.out) R9.out).mono ?_
        rintro e10 w10 ⟨v10, rfl, r10, k10⟩
        have s10 := k10.two s9
        have R10 := Lib.hid r10
        have R9' := Lib.hid (R9.out.keep k10)
        have K10 := Lib.hid (K9.out.trans k10)
        clear r10 k10 s9 K9 HW1 R9
        go_wp2_with fail
        refine (HW2.out _ R9'.out).mono ?_
        rintro e11 w11 ⟨v11, rfl, r11, k11⟩
        have R10' := Lib.hid (R10.out.keep k11)
        have R11 := Lib.hid r11
        have K11 := Lib.hid (K10.out.trans k11)
        clear r11 k11 s10 K10 HW2 R10 R9'
        go_wp2_with fail
        refine (pSameHexes_any v10 v11 L3 _ R10'.out R11.out (by have := HL3.out; omega)).mono ?_
        rintro e12 w12 ⟨rfl, k12⟩
        have K12 := Lib.hid (K11.out.trans k12)
        clear k12 K11 R10' R11 HL3 eB3
        go_wp2_with fail
        refine (drawNearestAlong_any A2 n2 c2 w12 (HB2.out.keep K12.out) h2).mono ?_
        rintro e13 w13 ⟨v13, l13, xq, xr, rfl, r13, hl13, k13⟩
        have kb := (Kp.refl w13).alloc (.cells #[.int .i64 xq, .int .i64 xr] 25)
        have K13 := Lib.hid (K12.out.trans (k13.trans kb))
        have R13 := Lib.hid (r13.keep kb)
        have s13 : (w13.alloc (.cells #[.int .i64 xq, .int .i64 xr] 25)).cell? ⟨w13.heap.size, 0, none⟩ = some (.int .i64 xq) ∧ (w13.alloc (.cells #[.int .i64 xq, .int .i64 xr] 25)).cell? ⟨w13.heap.size, 1, none⟩ = some (.int .i64 xr) := by simp [go_sem]
        have CN := Lib.hid (fun w (h : RdH w v13 l13) => nearestAlong_any v13 l13 xq xr w h (by omega))
        have CM := Lib.hid (fun w (h : RdH w v13 l13) => specNearestAlong_any v13 l13 xq xr w h (by omega))
        unfold NearPost at CN CM
        generalize nearI l13 xq xr = I at CN CM
        generalize nearOk l13 xq xr = O at CN CM
        have eI : (I == I) = true := by simp
        have eO : (O == O) = true := by simp
        clear k13 kb r13 K12
        go_upto_region 25 with fail
        obtain ⟨p26, hp26⟩ : ∃ b, b = w13.heap.size := ⟨_, rfl⟩
        rw [← hp26] at s13 ⊢
        generalize w13.alloc (.cells #[.int .i64 xq, .int .i64 xr] 25) = W13 at *
        clear hp26
        go_wp2_with fail
        refine (CN.out _ R13.out).mono ?_
        rintro e14 w14 ⟨rfl, k14⟩
        have s14 := k14.two s13
        have R14 := Lib.hid (R13.out.keep k14)
        have K14 := Lib.hid (K13.out.trans k14)
        clear k14 s13 K13 R13
        go_wp2_with fail
        refine (CM.out _ R14.out).mono ?_
        rintro e15 w15 ⟨rfl, k15⟩
        have K15 := Lib.hid (K14.out.trans k15)
        clear k15 s14 K14 R14
        go_wp2_with fail
        go_ret
        exact ⟨rfl, K15.out⟩
      · obtain ⟨hn, hz⟩ := HD3.out rfl
        have hp : 0 ≤ 3 * n * (n + 1) ∧ 3 * n * (n + 1) ≤ 126 := by
          have : n = 0 ∨ n = 1 ∨ n = 2 ∨ n = 3 ∨ n = 4 ∨ n = 5 ∨ n = 6 := by omega
          rcases this with rfl | rfl | rfl | rfl | rfl | rfl | rfl <;> decide
        have e1 : IntKind.i64.wrap (3 * n) = 3 * n := IntWalk.i64_in _ (by omega)
        have e2 : IntKind.i64.wrap (n + 1) = n + 1 := IntWalk.i64_in _ (by omega)
        have e3 : IntKind.i64.wrap (3 * n * (n + 1)) = 3 * n * (n + 1) := IntWalk.i64_in _ (by omega)
        have e4 : IntKind.i64.wrap (3 * n * (n + 1) + 1) = 3 * n * (n + 1) + 1 := IntWalk.i64_in _ (by omega)
        have ez : ((L2.length : Int) != 3 * n * (n + 1) + 1) = false := by rw [hz]; simp
        clear HD3 hz hp
        go_wp2_with fail
        refine CE.out.mono ?_
        rintro e8 w8 ⟨rfl, k8⟩
        have K8 := Lib.hid (K7.out.trans k8)
        clear k8 K7 CE eB2
        go_wp2_with fail
        refine (drawWalkFrom_any A2 n2 c2 w8 (HB2.out.keep K8.out) h2).mono ?_
        rintro e9 w9 ⟨gq, gr, v9, l9, rfl, r9, hl9, -, k9⟩
        have ka := (Kp.refl w9).alloc (.cells #[.int .i64 gq, .int .i64 gr] 25)
        have K9 := Lib.hid (K8.out.trans (k9.trans ka))
        have R9 := Lib.hid (r9.keep ka)
        have s9 : (w9.alloc (.cells #[.int .i64 gq, .int .i64 gr] 25)).cell? ⟨w9.heap.size, 0, none⟩ = some (.int .i64 gq) ∧ (w9.alloc (.cells #[.int .i64 gq, .int .i64 gr] 25)).cell? ⟨w9.heap.size, 1, none⟩ = some (.int .i64 gr) := by simp [go_sem]
        obtain ⟨L3, B3, hl3, hW1, hW2⟩ := walk_all gq gr v9 l9 hl9
        have HW1 := Lib.hid hW1
        have HW2 := Lib.hid hW2
        have HL3 := Lib.hid hl3
        have eB3 : (B3 != B3) = false := by simp
        clear hW1 hW2 hl3 k9 ka r9 K8
        unfold LP at HW1 HW2
        go_upto_region 20 with fail
        obtain ⟨p19, hp19⟩ : ∃ b, b = w9.heap.size := ⟨_, rfl⟩
        rw [← hp19] at s9 ⊢
        generalize w9.alloc (.cells #[.int .i64 gq, .int .i64 gr] 25) = W9 at *
        clear hp19
        go_wp2_with fail
        refine (HW1.out _ (HT.out.keep K9.out) R9.out).mono ?_
        rintro e10 w10 ⟨v10, rfl, r10, k10⟩
        have s10 := k10.two s9
        have R10 := Lib.hid r10
        have R9' := Lib.hid (R9.out.keep k10)
        have K10 := Lib.hid (K9.out.trans k10)
        clear r10 k10 s9 K9 HW1 R9
        go_wp2_with fail
        refine (HW2.out _ R9'.out).mono ?_
        rintro e11 w11 ⟨v11, rfl, r11, k11⟩
        have R10' := Lib.hid (R10.out.keep k11)
        have R11 := Lib.hid r11
        have K11 := Lib.hid (K10.out.trans k11)
        clear r11 k11 s10 K10 HW2 R10 R9'
        go_wp2_with fail
        refine (pSameHexes_any v10 v11 L3 _ R10'.out R11.out (by have := HL3.out; omega)).mono ?_
        rintro e12 w12 ⟨rfl, k12⟩
        have K12 := Lib.hid (K11.out.trans k12)
        clear k12 K11 R10' R11 HL3 eB3
        go_wp2_with fail
        refine (drawNearestAlong_any A2 n2 c2 w12 (HB2.out.keep K12.out) h2).mono ?_
        rintro e13 w13 ⟨v13, l13, xq, xr, rfl, r13, hl13, k13⟩
        have kb := (Kp.refl w13).alloc (.cells #[.int .i64 xq, .int .i64 xr] 25)
        have K13 := Lib.hid (K12.out.trans (k13.trans kb))
        have R13 := Lib.hid (r13.keep kb)
        have s13 : (w13.alloc (.cells #[.int .i64 xq, .int .i64 xr] 25)).cell? ⟨w13.heap.size, 0, none⟩ = some (.int .i64 xq) ∧ (w13.alloc (.cells #[.int .i64 xq, .int .i64 xr] 25)).cell? ⟨w13.heap.size, 1, none⟩ = some (.int .i64 xr) := by simp [go_sem]
        have CN := Lib.hid (fun w (h : RdH w v13 l13) => nearestAlong_any v13 l13 xq xr w h (by omega))
        have CM := Lib.hid (fun w (h : RdH w v13 l13) => specNearestAlong_any v13 l13 xq xr w h (by omega))
        unfold NearPost at CN CM
        generalize nearI l13 xq xr = I at CN CM
        generalize nearOk l13 xq xr = O at CN CM
        have eI : (I == I) = true := by simp
        have eO : (O == O) = true := by simp
        clear k13 kb r13 K12
        go_upto_region 25 with fail
        obtain ⟨p26, hp26⟩ : ∃ b, b = w13.heap.size := ⟨_, rfl⟩
        rw [← hp26] at s13 ⊢
        generalize w13.alloc (.cells #[.int .i64 xq, .int .i64 xr] 25) = W13 at *
        clear hp26
        go_wp2_with fail
        refine (CN.out _ R13.out).mono ?_
        rintro e14 w14 ⟨rfl, k14⟩
        have s14 := k14.two s13
        have R14 := Lib.hid (R13.out.keep k14)
        have K14 := Lib.hid (K13.out.trans k14)
        clear k14 s13 K13 R13
        go_wp2_with fail
        refine (CM.out _ R14.out).mono ?_
        rintro e15 w15 ⟨rfl, k15⟩
        have K15 := Lib.hid (K14.out.trans k15)
        clear k15 s14 K14 R14
        go_wp2_with fail
        go_ret
        exact ⟨rfl, K15.out⟩

set_option maxRecDepth 100000 in
theorem contract (H : Type) (enc : TypeId × Value → H) (W : World) (base : Nat) (args : Array Value) (ds gs : List (DataW H)) (before : List MemPlace)
    (hval : ∀ (j : Nat) t v, Tryd.f3.params[j]? = some t → args[j]? = some v → Value.okWide Tryd.prog W .any base t v)
    (hW : DataW.Whole enc Tryd.prog Tryd.f3.params.toList Rows.fnRingsSpec.vars false W args.toList ds gs before) (hL : laidMetH Tryd.prog Rows.fnRingsRow.laid W) :
    Calls Tryd.prog 3 args W fun e W' => ∃ v, e = .returned v ∧ Rows.fnRingsSpec.post enc Tryd.prog Tryd.f3 false true false false W args v W' := by
  have hW' := hW
  obtain ⟨p, q, hA0, hV, rfl, hfz, hnd⟩ := hW
  have hA : DataW.TrodAll enc Tryd.prog W 0 (fun _ => true) true Tryd.f3.params.toList args.toList ds p := hA0
  rw [Tryd.params3] at hA hval
  obtain ⟨v0, v1, d0, d1, p0, p1, rfl, rfl, rfl, h0, h1⟩ := trodAll_two hA
  obtain ⟨_, _, _, _, g0, _, rfl, _, _, _, _, _⟩ := trodVars_one hV
  obtain ⟨A0, m0, q0, rfl, hr0, hm0⟩ := rdBy_of_trod (hval 0 22 v0 rfl rfl) h0
  obtain ⟨A1, m1, q1, rfl, hr1, hm1⟩ := rdBy_of_trod (hval 1 22 v1 rfl rfl) h1
  refine (walk A0 A1 m0 q0 m1 q1 W hr0 hr1 hm0 hm1 (tab_of_laid hL)).mono fun e W' ⟨he, hg⟩ => ?_
  subst he
  exact ⟨_, rfl, law_post hW' laidOut (by kernel_rfl) (by kernel_rfl) (by kernel_rfl) Tryd.underlying4 rfl hg⟩

theorem laid_met (os : Os) : laidMet Tryd.prog Rows.fnRingsRow.laid ((laidWorld os).forCall (fun _ _ => 0) ⟨#[], #[.slice none 0 0, .slice none 0 0], []⟩).memory :=
  laidMet_of_run' 8 (by kernel_rfl) (by kernel_rfl)
theorem reads (os : Os) {H : Type} (enc : TypeId × Value → H) : ∃ ds gs places, DataW.whole enc Tryd.prog ((laidWorld os).forCall (fun _ _ => 0) ⟨#[], #[.slice none 0 0, .slice none 0 0], []⟩).memory Tryd.f3.params.toList Rows.fnRingsSpec.vars false #[.slice none 0 0, .slice none 0 0].toList 8 = some (ds, gs, places) :=
  ⟨[.nil, .nil], [Rows.laid_loop_example_g00886_impl_directionSteps], MemPlace.row ⟨0, 0, none⟩ 12, by kernel_rfl⟩

set_option maxRecDepth 100000 in
theorem lifted (os : Os) (started : os.Started) (H : Type) (enc : TypeId × Value → H) (F : Stop.Interp) :
    ReturnsInHanded {} Tryd.checked os 3 .any ((OpenSpec.ofChange Rows.fnRingsSpec).preRow enc Tryd.prog Tryd.f3 Rows.fnRingsRow.domain false Rows.fnRingsRow.laid) (((OpenSpec.ofChange Rows.fnRingsSpec).at F).post enc Tryd.prog Tryd.f3 false true false false) := by
  obtain ⟨ds, gs, places, hx⟩ := reads os enc
  refine returnsInHanded_of_row (C := Tryd.checked) (s := OpenSpec.ofChange Rows.fnRingsSpec) own started (by kernel_rfl) Tryd.func3
    (witness_row_at (enc := enc) (C := Tryd.checked) false (laidWorld os) #[.slice none 0 0, .slice none 0 0] rfl (by kernel_rfl) (by kernel_rfl) (by kernel_rfl)
      (OpenSpec.preRow_of_cond 8 hx (by kernel_rfl) (fun k hk => by cases hk) (by kernel_rfl) (laid_met os))) ?_
  intro W base args ds gs before hval hW _ _ _ hL _ _
  exact contract H enc W base args ds gs before hval hW hL

theorem said : Rows.FnRingsSaid :=
  OpenClaim.holds_of_cond 3 Tryd.f3 rfl rfl rfl rfl rfl rfl rfl ⟨rfl, rfl, rfl, rfl, rfl⟩ rfl rfl rfl rfl rfl (by kernel_rfl) Tryd.func3 (by kernel_rfl)
    (of_decide_eq_true (by kernel_rfl)) (by unfold Func.isWrapper; first | (rw [if_pos (by decide +kernel)]; kernel_rfl) | (rw [if_neg (by decide +kernel)]; exact ⟨rfl, rfl⟩))
    (fun os started H enc _ F => by rw [OpenClaim.pre_eq_preRow]; exact lifted os started H enc F)

theorem plain (f : FuncId) (fn : Func) (hf : Tryd.pinned.checked.prog.funcNamed "loop.example/g00886/laws.FnRings" = some f) (hfn : Tryd.pinned.checked.prog.funcs[f]? = some fn) :
    false = Tryd.pinned.checked.prog.looks [] ∧ ∀ (j : Nat) t, fn.params[j]? = some t → Tryd.pinned.checked.prog.wantsStandIn t = false := by
  obtain rfl : f = 3 := Option.some.inj ((show Tryd.prog.funcNamed "loop.example/g00886/laws.FnRings" = some 3 by kernel_rfl).symm.trans hf) |>.symm
  obtain rfl : fn = Tryd.f3 := (Option.some.inj (Tryd.func3.symm.trans hfn)).symm
  refine ⟨by kernel_rfl, fun j t ht => ?_⟩
  rw [Tryd.params3] at ht
  have hm := Array.mem_of_getElem? ht
  simp only [List.mem_toArray, List.mem_cons, List.not_mem_nil, or_false] at hm
  rcases hm with rfl | rfl
  · exact (show Tryd.prog.wantsStandIn 22 = false by kernel_rfl)
  · exact (show Tryd.prog.wantsStandIn 22 = false by kernel_rfl)

/-- The card: the row, with what it lists tied to the program's text. -/
theorem card : Rows.FnRingsCardSaid :=
  Claim7.holds_tied_plain_at .later [] _ _ _ _ said (fun _ h => by cases h) (by kernel_rfl) (fun _ h => by cases h) fnRings_row_tie rfl ⟨rfl, rfl⟩ (by kernel_rfl) rfl plain (by kernel_rfl)
#print axioms card

end Go.Proofs.YtmodcmkmfedgoaaDoor.fnRingsLaw
