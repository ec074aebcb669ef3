/-
  The hexes nearest to a point of a line, one or two: the program's and the reference's lists are what a plain function says, in memory of their own. Nothing that was there is changed.
-/
import Derived.Test.YtpfnljhnjembpaaNearI
namespace Go.Proofs.Ytpfnljhnjembpaa
open Go.RowKit

def cellsL (q r p : Int) : List (Int × Int) :=
  if q.tmod p = 0 then (nrI r p).map fun y => (q.tdiv p, y)
  else if r.tmod p = 0 then (nrI q p).map fun x => (x, r.tdiv p)
  else (nrI q p).map fun x => (x, (q + r).tdiv p - x)
theorem nrI_len (n p : Int) : (nrI n p).length ≤ 2 := by
  unfold nrI nrFS
  split
  · simp
  · split <;> simp
theorem nrI_bd {n p : Int} (hp : 1 ≤ p) (h1 : -20000 ≤ n) (h2 : n ≤ 20000) : ∀ x ∈ nrI n p, -30000 ≤ x ∧ x ≤ 30000 := by
  have bd := nr_bd hp h1 h2
  unfold nrI nrFS
  intro x hx
  split at hx
  · simp at hx; omega
  · split at hx
    · simp at hx; omega
    · simp at hx; omega
theorem tdiv_bd {n p : Int} (hp : 1 ≤ p) (h1 : -40000 ≤ n) (h2 : n ≤ 40000) : -40000 ≤ n.tdiv p ∧ n.tdiv p ≤ 40000 := by
  by_cases h : 0 ≤ n
  · rw [Int.tdiv_eq_ediv_of_nonneg h]
    exact ⟨by have := Int.ediv_nonneg h (show 0 ≤ p by omega); omega, Int.le_trans (Int.ediv_le_self _ h) h2⟩
  · have e : n.tdiv p = -((-n).tdiv p) := by rw [Int.neg_tdiv]; omega
    rw [e, Int.tdiv_eq_ediv_of_nonneg (show 0 ≤ -n by omega)]
    have a := Int.ediv_nonneg (show 0 ≤ -n by omega) (show 0 ≤ p by omega)
    have b := Int.ediv_le_self p (show 0 ≤ -n by omega)
    omega
theorem map_take {f : Int → Int × Int} {l : List Int} {k : Nat} {x : Int} (h : l[k]? = some x) : (l.take (k + 1)).map f = (l.take k).map f ++ [f x] := by
  obtain ⟨hk, rfl⟩ := List.getElem?_eq_some_iff.1 h
  rw [List.take_succ_eq_append_getElem hk, List.map_append]
  rfl
def NewPost (l : List (Int × Int)) (w : World) (e : Ending) (w' : World) : Prop := ∃ v, e = .returned v ∧ OwnH w' w.heap.size v l ∧ Kp w w'

set_option maxHeartbeats 4000000 in
theorem hexesNear_any (q r p : Int) (w : World) (q1 : -20000 ≤ q) (q2 : q ≤ 20000) (r1 : -20000 ≤ r) (r2 : r ≤ 20000) (p1 : 1 ≤ p) (p2 : p ≤ 200) :
    Calls Try.prog 18 #[.int .i64 q, .int .i64 r, .int .i64 p] w (NewPost (cellsL q r p) w) := by
  have bq := tdiv_bd (n := q) p1 (by omega) (by omega)
  have br := tdiv_bd (n := r) p1 (by omega) (by omega)
  have bs := tdiv_bd (n := q + r) p1 (by omega) (by omega)
  have hp0 : p ≠ 0 := by omega
  obtain ⟨i0, hi0, hz0, hs0, hb0⟩ := info_parts infoHex
  unfold cellsL
  by_cases hq : q.tmod p = 0
  · rw [if_pos hq]
    have hbd := nrI_bd p1 r1 r2
    have hn2 := nrI_len r p
    have hqe : (q.tmod p == 0) = true := by simpa using hq
    clear hq
    go_enter Try.func18, Try.ntmps18
    go_wp2_with fail
    refine (nearestIntegers_any _ _ _ r1 r2 p1 p2).mono ?_
    rintro e1 w1 ⟨v1, rfl, ⟨A1, c1, rfl, hr1⟩, k1⟩
    have HA := Lib.hid hr1
    have K1 : Kp w w1 := (Kp.refl w).trans k1
    generalize hl : nrI r p = l at *
    have HB := Lib.hid hbd
    generalize hn : l.length = n at *
    have HN := Lib.hid hn
    have HLs := Lib.hid hl
    clear hr1 k1 hl hn hbd
    go_wp2_with fail
    go_loopw [7, 9, 44] (fun v _ i wx => ∃ k : Nat, k ≤ n ∧ i = .int .i64 k ∧ OwnH wx w1.heap.size v ((l.take k).map (fun y => (q.tdiv p, y))) ∧ Kp w1 wx) (fun _ _ i _ => n - (intOf i).toNat)
    case atStart => exact ⟨0, by omega, rfl, by simpa using OwnH.nil _ _, Kp.refl _⟩
    case round =>
      obtain ⟨k, hk, rfl, hoR, kr⟩ := hrel
      by_cases hlt : k < n
      · have hlt' : (k : Int) < n := by omega
        obtain ⟨g, off, rfl, hc⟩ := HA.out (by omega)
        obtain ⟨x, hx⟩ : ∃ x, l[k]? = some x := ⟨l[k]'(by have := HN.out; omega), List.getElem?_eq_getElem _⟩
        have a0 := kr.cell (hc k x hx)
        have hxb := HB.out x (List.mem_of_getElem? hx)
        have HS := Lib.hid (map_take (f := (fun y => (q.tdiv p, y))) hx)
        have O1 := Lib.hid hoR
        have hlm : Hid (((l.take k).map (fun y => (q.tdiv p, y))).length ≤ 2) := Lib.hid (by have := HN.out; rw [List.length_map, List.length_take]; omega)
        have hz := kr.size
        clear hc hx hoR
        go_wp2_with (at_builtin; refine wpList_append_own_at _ rfl (.tmp 48) (.tmp 54) 32 rfl w1.heap.size 25 i0 (hx 0 0) 2 16 Try.underlying32 hi0 hz0 hs0 hb0 rfl (by decide) _ ((l.take k).map (fun y => (q.tdiv p, y))).length (cellsH ((l.take k).map (fun y => (q.tdiv p, y)))) rfl (World.ownsRow.alloc O1.out _) ⟨wr.heap.size, 0, none⟩ 1 1 [.int .i64 (q.tdiv p), .int .i64 (x)] rfl rfl (two_new _ _ _ _) (by simp [Value.oneCell']) (by have := hlm.out; simp only [maxLen]; omega) (by have := hlm.out; omega) (by simp; omega) ?_; intro v' w3 hown2 hgrow2 hnil2 hat2; clear hnil2 hat2; have K3 : Kp w1 w3 := ((kr.alloc (.cells #[.int .i64 (q.tdiv p), .int .i64 (x)] 25)).grown hgrow2 (fun k e => (World.ownsRow.lt O1.out k e).1)); have O3 := Lib.hid (OwnH.snoc (x := (q.tdiv p, x)) hown2); clear hown2 hgrow2)
        go_roundw
        case rel => exact ⟨k + 1, by omega, by go_num, by rw [HS.out]; exact O3.out, K3⟩
        case measure => simp [intOf]; omega
      · obtain rfl : k = n := by omega
        go_wp2_with fail
        go_ret
        rw [List.take_of_length_le (by have := HN.out; omega)] at hoR
        rw [← HLs.out] at hoR
        exact ⟨_, rfl, hoR.base K1.size, K1.trans kr⟩
  · rw [if_neg hq]
    have hqe : (q.tmod p == 0) = false := by simpa using hq
    have hbd := nrI_bd p1 q1 q2
    have hn2 := nrI_len q p
    clear hq
    by_cases hr : r.tmod p = 0
    · rw [if_pos hr]
      have hre : (r.tmod p == 0) = true := by simpa using hr
      clear hr
      go_enter Try.func18, Try.ntmps18
      go_wp2_with fail
      refine (nearestIntegers_any _ _ _ q1 q2 p1 p2).mono ?_
      rintro e1 w1 ⟨v1, rfl, ⟨A1, c1, rfl, hr1⟩, k1⟩
      have HA := Lib.hid hr1
      have K1 : Kp w w1 := (Kp.refl w).trans k1
      generalize hl : nrI q p = l at *
      have HB := Lib.hid hbd
      generalize hn : l.length = n at *
      have HN := Lib.hid hn
      have HLs := Lib.hid hl
      clear hr1 k1 hl hn hbd
      go_wp2_with fail
      go_loopw [7, 11, 66] (fun v _ i wx => ∃ k : Nat, k ≤ n ∧ i = .int .i64 k ∧ OwnH wx w1.heap.size v ((l.take k).map (fun x => (x, r.tdiv p))) ∧ Kp w1 wx) (fun _ _ i _ => n - (intOf i).toNat)
      case atStart => exact ⟨0, by omega, rfl, by simpa using OwnH.nil _ _, Kp.refl _⟩
      case round =>
        obtain ⟨k, hk, rfl, hoR, kr⟩ := hrel
        by_cases hlt : k < n
        · have hlt' : (k : Int) < n := by omega
          obtain ⟨g, off, rfl, hc⟩ := HA.out (by omega)
          obtain ⟨x, hx⟩ : ∃ x, l[k]? = some x := ⟨l[k]'(by have := HN.out; omega), List.getElem?_eq_getElem _⟩
          have a0 := kr.cell (hc k x hx)
          have hxb := HB.out x (List.mem_of_getElem? hx)
          have HS := Lib.hid (map_take (f := (fun x => (x, r.tdiv p))) hx)
          have O1 := Lib.hid hoR
          have hlm : Hid (((l.take k).map (fun x => (x, r.tdiv p))).length ≤ 2) := Lib.hid (by have := HN.out; rw [List.length_map, List.length_take]; omega)
          have hz := kr.size
          clear hc hx hoR
          go_wp2_with (at_builtin; refine wpList_append_own_at _ rfl (.tmp 70) (.tmp 76) 32 rfl w1.heap.size 25 i0 (hx 0 0) 2 16 Try.underlying32 hi0 hz0 hs0 hb0 rfl (by decide) _ ((l.take k).map (fun x => (x, r.tdiv p))).length (cellsH ((l.take k).map (fun x => (x, r.tdiv p)))) rfl (World.ownsRow.alloc O1.out _) ⟨wr.heap.size, 0, none⟩ 1 1 [.int .i64 (x), .int .i64 (r.tdiv p)] rfl rfl (two_new _ _ _ _) (by simp [Value.oneCell']) (by have := hlm.out; simp only [maxLen]; omega) (by have := hlm.out; omega) (by simp; omega) ?_; intro v' w3 hown2 hgrow2 hnil2 hat2; clear hnil2 hat2; have K3 : Kp w1 w3 := ((kr.alloc (.cells #[.int .i64 (x), .int .i64 (r.tdiv p)] 25)).grown hgrow2 (fun k e => (World.ownsRow.lt O1.out k e).1)); have O3 := Lib.hid (OwnH.snoc (x := (x, r.tdiv p)) hown2); clear hown2 hgrow2)
          go_roundw
          case rel => exact ⟨k + 1, by omega, by go_num, by rw [HS.out]; exact O3.out, K3⟩
          case measure => simp [intOf]; omega
        · obtain rfl : k = n := by omega
          go_wp2_with fail
          go_ret
          rw [List.take_of_length_le (by have := HN.out; omega)] at hoR
          rw [← HLs.out] at hoR
          exact ⟨_, rfl, hoR.base K1.size, K1.trans kr⟩
    · rw [if_neg hr]
      have hre : (r.tmod p == 0) = false := by simpa using hr
      clear hr
      go_enter Try.func18, Try.ntmps18
      go_wp2_with fail
      refine (nearestIntegers_any _ _ _ q1 q2 p1 p2).mono ?_
      rintro e1 w1 ⟨v1, rfl, ⟨A1, c1, rfl, hr1⟩, k1⟩
      have HA := Lib.hid hr1
      have K1 : Kp w w1 := (Kp.refl w).trans k1
      generalize hl : nrI q p = l at *
      have HB := Lib.hid hbd
      generalize hn : l.length = n at *
      have HN := Lib.hid hn
      have HLs := Lib.hid hl
      clear hr1 k1 hl hn hbd
      go_wp2_with fail
      go_loopw [7, 13, 18] (fun v _ i wx => ∃ k : Nat, k ≤ n ∧ i = .int .i64 k ∧ OwnH wx w1.heap.size v ((l.take k).map (fun x => (x, (q + r).tdiv p - x))) ∧ Kp w1 wx) (fun _ _ i _ => n - (intOf i).toNat)
      case atStart => exact ⟨0, by omega, rfl, by simpa using OwnH.nil _ _, Kp.refl _⟩
      case round =>
        obtain ⟨k, hk, rfl, hoR, kr⟩ := hrel
        by_cases hlt : k < n
        · have hlt' : (k : Int) < n := by omega
          obtain ⟨g, off, rfl, hc⟩ := HA.out (by omega)
          obtain ⟨x, hx⟩ : ∃ x, l[k]? = some x := ⟨l[k]'(by have := HN.out; omega), List.getElem?_eq_getElem _⟩
          have a0 := kr.cell (hc k x hx)
          have hxb := HB.out x (List.mem_of_getElem? hx)
          have HS := Lib.hid (map_take (f := (fun x => (x, (q + r).tdiv p - x))) hx)
          have O1 := Lib.hid hoR
          have hlm : Hid (((l.take k).map (fun x => (x, (q + r).tdiv p - x))).length ≤ 2) := Lib.hid (by have := HN.out; rw [List.length_map, List.length_take]; omega)
          have hz := kr.size
          clear hc hx hoR
          go_wp2_with (at_builtin; refine wpList_append_own_at _ rfl (.tmp 22) (.tmp 32) 32 rfl w1.heap.size 25 i0 (hx 0 0) 2 16 Try.underlying32 hi0 hz0 hs0 hb0 rfl (by decide) _ ((l.take k).map (fun x => (x, (q + r).tdiv p - x))).length (cellsH ((l.take k).map (fun x => (x, (q + r).tdiv p - x)))) rfl (World.ownsRow.alloc O1.out _) ⟨wr.heap.size, 0, none⟩ 1 1 [.int .i64 (x), .int .i64 ((q + r).tdiv p - x)] rfl rfl (two_new _ _ _ _) (by simp [Value.oneCell']) (by have := hlm.out; simp only [maxLen]; omega) (by have := hlm.out; omega) (by simp; omega) ?_; intro v' w3 hown2 hgrow2 hnil2 hat2; clear hnil2 hat2; have K3 : Kp w1 w3 := ((kr.alloc (.cells #[.int .i64 (x), .int .i64 ((q + r).tdiv p - x)] 25)).grown hgrow2 (fun k e => (World.ownsRow.lt O1.out k e).1)); have O3 := Lib.hid (OwnH.snoc (x := (x, (q + r).tdiv p - x)) hown2); clear hown2 hgrow2)
          go_roundw
          case rel => exact ⟨k + 1, by omega, by go_num, by rw [HS.out]; exact O3.out, K3⟩
          case measure => simp [intOf]; omega
        · obtain rfl : k = n := by omega
          go_wp2_with fail
          go_ret
          rw [List.take_of_length_le (by have := HN.out; omega)] at hoR
          rw [← HLs.out] at hoR
          exact ⟨_, rfl, hoR.base K1.size, K1.trans kr⟩

theorem mul_bd2 {x y a b : Int} (x1 : -a ≤ x) (x2 : x ≤ a) (y1 : -b ≤ y) (y2 : y ≤ b) : -(a * b) ≤ x * y ∧ x * y ≤ a * b := by
  have h1 : 0 ≤ (a - x) * (b + y) := Int.mul_nonneg (by omega) (by omega)
  have h2 : 0 ≤ (a + x) * (b - y) := Int.mul_nonneg (by omega) (by omega)
  have h3 : 0 ≤ (a - x) * (b - y) := Int.mul_nonneg (by omega) (by omega)
  have h4 : 0 ≤ (a + x) * (b + y) := Int.mul_nonneg (by omega) (by omega)
  simp only [Int.sub_mul, Int.mul_sub, Int.add_mul, Int.mul_add] at h1 h2 h3 h4
  omega

set_option maxHeartbeats 4000000 in
theorem hCells_any (aq ar bq br i p q r : Int) (w : World) (a1 : -40 ≤ aq) (a2 : aq ≤ 40) (a3 : -40 ≤ ar) (a4 : ar ≤ 40) (b1 : -40 ≤ bq) (b2 : bq ≤ 40) (b3 : -40 ≤ br) (b4 : br ≤ 40) (i1 : 0 ≤ i) (i2 : i ≤ 160) (p1 : 1 ≤ p) (p2 : p ≤ 160)
    (eq : q = aq * p + (bq - aq) * i) (er : r = ar * p + (br - ar) * i) :
    Calls Try.prog 30 #[hx aq ar, hx bq br, .int .i64 i, .int .i64 p] w (NewPost (cellsL q r p) w) := by
  have m1 := mul_bd2 (x := aq) (y := p) (a := 40) (b := 160) (by omega) (by omega) (by omega) (by omega)
  have m2 := mul_bd2 (x := bq - aq) (y := i) (a := 80) (b := 160) (by omega) (by omega) (by omega) (by omega)
  have m3 := mul_bd2 (x := ar) (y := p) (a := 40) (b := 160) (by omega) (by omega) (by omega) (by omega)
  have m4 := mul_bd2 (x := br - ar) (y := i) (a := 80) (b := 160) (by omega) (by omega) (by omega) (by omega)
  have q1 : -20000 ≤ q := by omega
  have q2 : q ≤ 20000 := by omega
  have r1 : -20000 ≤ r := by omega
  have r2 : r ≤ 20000 := by omega
  have bq := tdiv_bd (n := q) p1 (by omega) (by omega)
  have br' := tdiv_bd (n := r) p1 (by omega) (by omega)
  have bs := tdiv_bd (n := q + r) p1 (by omega) (by omega)
  have hp0 : p ≠ 0 := by omega
  obtain ⟨i0, hi0, hz0, hs0, hb0⟩ := info_parts infoHex
  have HQ := Lib.hid eq
  have HR := Lib.hid er
  unfold cellsL
  by_cases hq : q.tmod p = 0
  · rw [if_pos hq]
    have hbd := nrI_bd p1 r1 r2
    have hn2 := nrI_len r p
    have hqe : (q.tmod p == 0) = true := by simpa using hq
    clear hq eq er
    go_enter Try.func30, Try.ntmps30
    go_wp2_with fail
    go_quiet (fail)
    rw [← HQ.out, ← HR.out]
    go_wp2_with fail
    refine (hNear_any _ _ _ r1 r2 p1 (by omega)).mono ?_
    rintro e1 w1 ⟨v1, rfl, ⟨A1, c1, rfl, hr1⟩, k1⟩
    have HA := Lib.hid hr1
    have K1 : Kp w w1 := ((((Kp.refl w).alloc _).alloc _).drewN _).trans k1
    generalize hl : nrI r p = l at *
    have HB := Lib.hid hbd
    generalize hn : l.length = n at *
    have HN := Lib.hid hn
    have HLs := Lib.hid hl
    clear hr1 k1 hl hn hbd
    go_wp2_with fail
    go_loopw [11, 13, 48] (fun v _ i wx => ∃ k : Nat, k ≤ n ∧ i = .int .i64 k ∧ OwnH wx w1.heap.size v ((l.take k).map (fun y => (q.tdiv p, y))) ∧ Kp w1 wx) (fun _ _ i _ => n - (intOf i).toNat)
    case atStart => exact ⟨0, by omega, rfl, by simpa using OwnH.nil _ _, Kp.refl _⟩
    case round =>
      obtain ⟨k, hk, rfl, hoR, kr⟩ := hrel
      by_cases hlt : k < n
      · have hlt' : (k : Int) < n := by omega
        obtain ⟨g, off, rfl, hc⟩ := HA.out (by omega)
        obtain ⟨x, hx⟩ : ∃ x, l[k]? = some x := ⟨l[k]'(by have := HN.out; omega), List.getElem?_eq_getElem _⟩
        have a0 := kr.cell (hc k x hx)
        have hxb := HB.out x (List.mem_of_getElem? hx)
        have HS := Lib.hid (map_take (f := (fun y => (q.tdiv p, y))) hx)
        have O1 := Lib.hid hoR
        have hlm : Hid (((l.take k).map (fun y => (q.tdiv p, y))).length ≤ 2) := Lib.hid (by have := HN.out; rw [List.length_map, List.length_take]; omega)
        have hz := kr.size
        clear hc hx hoR
        go_wp2_with (at_builtin; refine wpList_append_own_at _ rfl (.tmp 52) (.tmp 58) 32 rfl w1.heap.size 25 i0 (hx 0 0) 2 16 Try.underlying32 hi0 hz0 hs0 hb0 rfl (by decide) _ ((l.take k).map (fun y => (q.tdiv p, y))).length (cellsH ((l.take k).map (fun y => (q.tdiv p, y)))) rfl (World.ownsRow.alloc O1.out _) ⟨wr.heap.size, 0, none⟩ 1 1 [.int .i64 (q.tdiv p), .int .i64 (x)] rfl rfl (two_new _ _ _ _) (by simp [Value.oneCell']) (by have := hlm.out; simp only [maxLen]; omega) (by have := hlm.out; omega) (by simp; omega) ?_; intro v' w3 hown2 hgrow2 hnil2 hat2; clear hnil2 hat2; have K3 : Kp w1 w3 := ((kr.alloc (.cells #[.int .i64 (q.tdiv p), .int .i64 (x)] 25)).grown hgrow2 (fun k e => (World.ownsRow.lt O1.out k e).1)); have O3 := Lib.hid (OwnH.snoc (x := (q.tdiv p, x)) hown2); clear hown2 hgrow2)
        go_roundw
        case rel => exact ⟨k + 1, by omega, by go_num, by rw [HS.out]; exact O3.out, K3⟩
        case measure => simp [intOf]; omega
      · obtain rfl : k = n := by omega
        go_wp2_with fail
        go_ret
        rw [List.take_of_length_le (by have := HN.out; omega)] at hoR
        rw [← HLs.out] at hoR
        exact ⟨_, rfl, hoR.base K1.size, K1.trans kr⟩
  · rw [if_neg hq]
    have hqe : (q.tmod p == 0) = false := by simpa using hq
    have hbd := nrI_bd p1 q1 q2
    have hn2 := nrI_len q p
    clear hq
    by_cases hr : r.tmod p = 0
    · rw [if_pos hr]
      have hre : (r.tmod p == 0) = true := by simpa using hr
      clear hr eq er
      go_enter Try.func30, Try.ntmps30
      go_wp2_with fail
      go_quiet (fail)
      rw [← HQ.out, ← HR.out]
      go_wp2_with fail
      refine (hNear_any _ _ _ q1 q2 p1 (by omega)).mono ?_
      rintro e1 w1 ⟨v1, rfl, ⟨A1, c1, rfl, hr1⟩, k1⟩
      have HA := Lib.hid hr1
      have K1 : Kp w w1 := ((((Kp.refl w).alloc _).alloc _).drewN _).trans k1
      generalize hl : nrI q p = l at *
      have HB := Lib.hid hbd
      generalize hn : l.length = n at *
      have HN := Lib.hid hn
      have HLs := Lib.hid hl
      clear hr1 k1 hl hn hbd
      go_wp2_with fail
      go_loopw [11, 15, 66] (fun v _ i wx => ∃ k : Nat, k ≤ n ∧ i = .int .i64 k ∧ OwnH wx w1.heap.size v ((l.take k).map (fun x => (x, r.tdiv p))) ∧ Kp w1 wx) (fun _ _ i _ => n - (intOf i).toNat)
      case atStart => exact ⟨0, by omega, rfl, by simpa using OwnH.nil _ _, Kp.refl _⟩
      case round =>
        obtain ⟨k, hk, rfl, hoR, kr⟩ := hrel
        by_cases hlt : k < n
        · have hlt' : (k : Int) < n := by omega
          obtain ⟨g, off, rfl, hc⟩ := HA.out (by omega)
          obtain ⟨x, hx⟩ : ∃ x, l[k]? = some x := ⟨l[k]'(by have := HN.out; omega), List.getElem?_eq_getElem _⟩
          have a0 := kr.cell (hc k x hx)
          have hxb := HB.out x (List.mem_of_getElem? hx)
          have HS := Lib.hid (map_take (f := (fun x => (x, r.tdiv p))) hx)
          have O1 := Lib.hid hoR
          have hlm : Hid (((l.take k).map (fun x => (x, r.tdiv p))).length ≤ 2) := Lib.hid (by have := HN.out; rw [List.length_map, List.length_take]; omega)
          have hz := kr.size
          clear hc hx hoR
          go_wp2_with (at_builtin; refine wpList_append_own_at _ rfl (.tmp 74) (.tmp 80) 32 rfl w1.heap.size 25 i0 (hx 0 0) 2 16 Try.underlying32 hi0 hz0 hs0 hb0 rfl (by decide) _ ((l.take k).map (fun x => (x, r.tdiv p))).length (cellsH ((l.take k).map (fun x => (x, r.tdiv p)))) rfl (World.ownsRow.alloc O1.out _) ⟨wr.heap.size, 0, none⟩ 1 1 [.int .i64 (x), .int .i64 (r.tdiv p)] rfl rfl (two_new _ _ _ _) (by simp [Value.oneCell']) (by have := hlm.out; simp only [maxLen]; omega) (by have := hlm.out; omega) (by simp; omega) ?_; intro v' w3 hown2 hgrow2 hnil2 hat2; clear hnil2 hat2; have K3 : Kp w1 w3 := ((kr.alloc (.cells #[.int .i64 (x), .int .i64 (r.tdiv p)] 25)).grown hgrow2 (fun k e => (World.ownsRow.lt O1.out k e).1)); have O3 := Lib.hid (OwnH.snoc (x := (x, r.tdiv p)) hown2); clear hown2 hgrow2)
          go_roundw
          case rel => exact ⟨k + 1, by omega, by go_num, by rw [HS.out]; exact O3.out, K3⟩
          case measure => simp [intOf]; omega
        · obtain rfl : k = n := by omega
          go_wp2_with fail
          go_ret
          rw [List.take_of_length_le (by have := HN.out; omega)] at hoR
          rw [← HLs.out] at hoR
          exact ⟨_, rfl, hoR.base K1.size, K1.trans kr⟩
    · rw [if_neg hr]
      have hre : (r.tmod p == 0) = false := by simpa using hr
      clear hr eq er
      go_enter Try.func30, Try.ntmps30
      go_wp2_with fail
      go_quiet (fail)
      rw [← HQ.out, ← HR.out]
      go_wp2_with fail
      refine (hNear_any _ _ _ q1 q2 p1 (by omega)).mono ?_
      rintro e1 w1 ⟨v1, rfl, ⟨A1, c1, rfl, hr1⟩, k1⟩
      have HA := Lib.hid hr1
      have K1 : Kp w w1 := ((((Kp.refl w).alloc _).alloc _).drewN _).trans k1
      generalize hl : nrI q p = l at *
      have HB := Lib.hid hbd
      generalize hn : l.length = n at *
      have HN := Lib.hid hn
      have HLs := Lib.hid hl
      clear hr1 k1 hl hn hbd
      go_wp2_with fail
      go_loopw [11, 15, 66] (fun v _ i wx => ∃ k : Nat, k ≤ n ∧ i = .int .i64 k ∧ OwnH wx w1.heap.size v ((l.take k).map (fun x => (x, (q + r).tdiv p - x))) ∧ Kp w1 wx) (fun _ _ i _ => n - (intOf i).toNat)
      case atStart => exact ⟨0, by omega, rfl, by simpa using OwnH.nil _ _, Kp.refl _⟩
      case round =>
        obtain ⟨k, hk, rfl, hoR, kr⟩ := hrel
        by_cases hlt : k < n
        · have hlt' : (k : Int) < n := by omega
          obtain ⟨g, off, rfl, hc⟩ := HA.out (by omega)
          obtain ⟨x, hx⟩ : ∃ x, l[k]? = some x := ⟨l[k]'(by have := HN.out; omega), List.getElem?_eq_getElem _⟩
          have a0 := kr.cell (hc k x hx)
          have hxb := HB.out x (List.mem_of_getElem? hx)
          have HS := Lib.hid (map_take (f := (fun x => (x, (q + r).tdiv p - x))) hx)
          have O1 := Lib.hid hoR
          have hlm : Hid (((l.take k).map (fun x => (x, (q + r).tdiv p - x))).length ≤ 2) := Lib.hid (by have := HN.out; rw [List.length_map, List.length_take]; omega)
          have hz := kr.size
          clear hc hx hoR
          go_wp2_with (at_builtin; refine wpList_append_own_at _ rfl (.tmp 82) (.tmp 92) 32 rfl w1.heap.size 25 i0 (hx 0 0) 2 16 Try.underlying32 hi0 hz0 hs0 hb0 rfl (by decide) _ ((l.take k).map (fun x => (x, (q + r).tdiv p - x))).length (cellsH ((l.take k).map (fun x => (x, (q + r).tdiv p - x)))) rfl (World.ownsRow.alloc O1.out _) ⟨wr.heap.size, 0, none⟩ 1 1 [.int .i64 (x), .int .i64 ((q + r).tdiv p - x)] rfl rfl (two_new _ _ _ _) (by simp [Value.oneCell']) (by have := hlm.out; simp only [maxLen]; omega) (by have := hlm.out; omega) (by simp; omega) ?_; intro v' w3 hown2 hgrow2 hnil2 hat2; clear hnil2 hat2; have K3 : Kp w1 w3 := ((kr.alloc (.cells #[.int .i64 (x), .int .i64 ((q + r).tdiv p - x)] 25)).grown hgrow2 (fun k e => (World.ownsRow.lt O1.out k e).1)); have O3 := Lib.hid (OwnH.snoc (x := (x, (q + r).tdiv p - x)) hown2); clear hown2 hgrow2)
          go_roundw
          case rel => exact ⟨k + 1, by omega, by go_num, by rw [HS.out]; exact O3.out, K3⟩
          case measure => simp [intOf]; omega
        · obtain rfl : k = n := by omega
          go_wp2_with fail
          go_ret
          rw [List.take_of_length_le (by have := HN.out; omega)] at hoR
          rw [← HLs.out] at hoR
          exact ⟨_, rfl, hoR.base K1.size, K1.trans kr⟩

end Go.Proofs.Ytpfnljhnjembpaa
