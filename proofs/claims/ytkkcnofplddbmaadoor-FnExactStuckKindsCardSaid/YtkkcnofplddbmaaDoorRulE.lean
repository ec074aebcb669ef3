/-
  The laws' comparison of rules: two that hold the same lists and numbers are equal. Nothing that was there is changed.
-/
import Derived.Test.YtkkcnofplddbmaaDoorRulI
namespace Go.Proofs.YtkkcnofplddbmaaDoor
open Go.RowKit

theorem keepc5 {w w1 : World} {p0 p1 p2 p3 p4 : Addr} {v0 v1 v2 v3 v4 : Value} (k : Kp w w1) (h : w.cell? p0 = some v0 ∧ w.cell? p1 = some v1 ∧ w.cell? p2 = some v2 ∧ w.cell? p3 = some v3 ∧ w.cell? p4 = some v4) : w1.cell? p0 = some v0 ∧ w1.cell? p1 = some v1 ∧ w1.cell? p2 = some v2 ∧ w1.cell? p3 = some v3 ∧ w1.cell? p4 = some v4 :=
  ⟨k.cell h.1, k.cell h.2.1, k.cell h.2.2.1, k.cell h.2.2.2.1, k.cell h.2.2.2.2⟩
theorem keepc6 {w w1 : World} {p0 p1 p2 p3 p4 p5 : Addr} {v0 v1 v2 v3 v4 v5 : Value} (k : Kp w w1) (h : w.cell? p0 = some v0 ∧ w.cell? p1 = some v1 ∧ w.cell? p2 = some v2 ∧ w.cell? p3 = some v3 ∧ w.cell? p4 = some v4 ∧ w.cell? p5 = some v5) : w1.cell? p0 = some v0 ∧ w1.cell? p1 = some v1 ∧ w1.cell? p2 = some v2 ∧ w1.cell? p3 = some v3 ∧ w1.cell? p4 = some v4 ∧ w1.cell? p5 = some v5 :=
  ⟨k.cell h.1, k.cell h.2.1, k.cell h.2.2.1, k.cell h.2.2.2.1, k.cell h.2.2.2.2.1, k.cell h.2.2.2.2.2⟩
theorem keepc10 {w w1 : World} {p0 p1 p2 p3 p4 p5 p6 p7 p8 p9 : Addr} {v0 v1 v2 v3 v4 v5 v6 v7 v8 v9 : Value} (k : Kp w w1) (h : w.cell? p0 = some v0 ∧ w.cell? p1 = some v1 ∧ w.cell? p2 = some v2 ∧ w.cell? p3 = some v3 ∧ w.cell? p4 = some v4 ∧ w.cell? p5 = some v5 ∧ w.cell? p6 = some v6 ∧ w.cell? p7 = some v7 ∧ w.cell? p8 = some v8 ∧ w.cell? p9 = some v9) : w1.cell? p0 = some v0 ∧ w1.cell? p1 = some v1 ∧ w1.cell? p2 = some v2 ∧ w1.cell? p3 = some v3 ∧ w1.cell? p4 = some v4 ∧ w1.cell? p5 = some v5 ∧ w1.cell? p6 = some v6 ∧ w1.cell? p7 = some v7 ∧ w1.cell? p8 = some v8 ∧ w1.cell? p9 = some v9 :=
  ⟨k.cell h.1, k.cell h.2.1, k.cell h.2.2.1, k.cell h.2.2.2.1, k.cell h.2.2.2.2.1, k.cell h.2.2.2.2.2.1, k.cell h.2.2.2.2.2.2.1, k.cell h.2.2.2.2.2.2.2.1, k.cell h.2.2.2.2.2.2.2.2.1, k.cell h.2.2.2.2.2.2.2.2.2⟩
theorem keepc12 {w w1 : World} {p0 p1 p2 p3 p4 p5 p6 p7 p8 p9 p10 p11 : Addr} {v0 v1 v2 v3 v4 v5 v6 v7 v8 v9 v10 v11 : Value} (k : Kp w w1) (h : w.cell? p0 = some v0 ∧ w.cell? p1 = some v1 ∧ w.cell? p2 = some v2 ∧ w.cell? p3 = some v3 ∧ w.cell? p4 = some v4 ∧ w.cell? p5 = some v5 ∧ w.cell? p6 = some v6 ∧ w.cell? p7 = some v7 ∧ w.cell? p8 = some v8 ∧ w.cell? p9 = some v9 ∧ w.cell? p10 = some v10 ∧ w.cell? p11 = some v11) : w1.cell? p0 = some v0 ∧ w1.cell? p1 = some v1 ∧ w1.cell? p2 = some v2 ∧ w1.cell? p3 = some v3 ∧ w1.cell? p4 = some v4 ∧ w1.cell? p5 = some v5 ∧ w1.cell? p6 = some v6 ∧ w1.cell? p7 = some v7 ∧ w1.cell? p8 = some v8 ∧ w1.cell? p9 = some v9 ∧ w1.cell? p10 = some v10 ∧ w1.cell? p11 = some v11 :=
  ⟨k.cell h.1, k.cell h.2.1, k.cell h.2.2.1, k.cell h.2.2.2.1, k.cell h.2.2.2.2.1, k.cell h.2.2.2.2.2.1, k.cell h.2.2.2.2.2.2.1, k.cell h.2.2.2.2.2.2.2.1, k.cell h.2.2.2.2.2.2.2.2.1, k.cell h.2.2.2.2.2.2.2.2.2.1, k.cell h.2.2.2.2.2.2.2.2.2.2.1, k.cell h.2.2.2.2.2.2.2.2.2.2.2⟩

theorem RdI.of_slice {w : World} {A : Option Addr} {n c : Nat} {l : List Int} (h : RdI w (.slice A n c) l) : l.length = n := by
  obtain ⟨A', c', e, _⟩ := h
  simp only [Value.slice.injEq] at e
  exact e.2.1.symm

set_option maxRecDepth 100000 in
set_option maxHeartbeats 1000000 in
theorem eqTerrain_same (nm : ByteArray) (A B : Option Addr) (nc ca cb : Nat) (s h : Int) (b : Bool) (l : List Int) (w : World) (ha : RdI w (.slice A nc ca) l) (hb : RdI w (.slice B nc cb) l) (hn : nc ≤ 1048576) :
    Calls Tryd.prog 98 #[tv nm A nc ca s h b, tv nm B nc cb s h b] w fun e w' => e = .returned (.bool true) ∧ Kp w w' := by
  have hl : l.length ≤ 1048576 := by rw [ha.of_slice]; exact hn
  have KA : Kp w ((w.alloc (.cells #[.string nm, .slice A nc ca, .int .i64 s, .int .i64 h, .bool b] 79)).alloc (.cells #[.string nm, .slice B nc cb, .int .i64 s, .int .i64 h, .bool b] 79)) := ((Kp.refl w).alloc _).alloc _
  have HA := Lib.hid (ha.keep KA)
  have HB := Lib.hid (hb.keep KA)
  have e1 : (nm.toList != nm.toList) = false := by simp
  have e2 : (s != s) = false := by simp
  have e3 : (h != h) = false := by simp
  have e4 : (b != b) = false := by simp
  have HL := Lib.hid hl
  clear ha hb hl
  go_enter Tryd.func98, Tryd.ntmps98
  go_wp2_with fail
  refine (eqIntS_same _ _ l _ HA.out HB.out HL.out).mono ?_
  rintro x1 w1 ⟨rfl, k1⟩
  have p2 : w1.cell? ⟨w.heap.size, 2, none⟩ = some (.int .i64 s) := k1.cell (by simp [go_sem])
  have p3 : w1.cell? ⟨w.heap.size, 3, none⟩ = some (.int .i64 h) := k1.cell (by simp [go_sem])
  have p4 : w1.cell? ⟨w.heap.size, 4, none⟩ = some (.bool b) := k1.cell (by simp [go_sem])
  have q2 : w1.cell? ⟨w.heap.size + 1, 2, none⟩ = some (.int .i64 s) := k1.cell (by simp [go_sem])
  have q3 : w1.cell? ⟨w.heap.size + 1, 3, none⟩ = some (.int .i64 h) := k1.cell (by simp [go_sem])
  have q4 : w1.cell? ⟨w.heap.size + 1, 4, none⟩ = some (.bool b) := k1.cell (by simp [go_sem])
  have K1 : Kp w w1 := KA.trans k1
  clear k1 KA
  go_wp2_with fail
  go_ret
  exact ⟨rfl, K1⟩

theorem eqKind_same (nm : ByteArray) (a b c : Int) (z : Bool) (v : Int) (w : World) :
    Calls Tryd.prog 99 #[kv nm a b c z v, kv nm a b c z v] w fun e w' => e = .returned (.bool true) ∧ Kp w w' := by
  have e1 : (nm.toList != nm.toList) = false := by simp
  have e2 : (a != a) = false := by simp
  have e3 : (b != b) = false := by simp
  have e4 : (c != c) = false := by simp
  have e5 : (z != z) = false := by simp
  have e6 : (v != v) = false := by simp
  go_enter Tryd.func99, Tryd.ntmps99
  go_wp2_with fail
  go_ret
  exact ⟨rfl, ((Kp.refl w).alloc _).alloc _⟩

set_option maxRecDepth 100000 in
set_option maxHeartbeats 2000000 in
theorem eqTerrainS_same (A B : Option Addr) (n ca cb : Nat) (l : List Ter) (w : World) (ha : RdT w A n l) (hb : RdT w B n l) (hn : n ≤ 1048576) (hcb : ∀ x ∈ l, x.cost.length ≤ 1048576) :
    Calls Tryd.prog 61 #[.slice A n ca, .slice B n cb] w fun e w' => e = .returned (.bool true) ∧ Kp w w' := by
  have HA := Lib.hid ha.2
  have HB := Lib.hid hb.2
  have HN := Lib.hid ha.1
  have HB2 := Lib.hid hcb
  clear hcb
  clear ha hb
  go_enter Tryd.func61, Tryd.ntmps61
  go_wp2_with fail
  go_loopw [5] (fun i wr => ∃ k : Nat, k ≤ n ∧ i = .int .i64 k ∧ Kp w wr) (fun i _ => n - (intOf i).toNat)
  case atStart => exact ⟨0, by omega, rfl, Kp.refl _⟩
  case round =>
    obtain ⟨k, hk, rfl, kr⟩ := hrel
    by_cases hlt : k < n
    · have hlt' : (k : Int) < n := by omega
      obtain ⟨ga, oa, rfl, ca'⟩ := HA.out (by omega)
      obtain ⟨gb, ob, rfl, cb'⟩ := HB.out (by omega)
      obtain ⟨x, hx⟩ : ∃ x, l[k]? = some x := ⟨l[k]'(by have := HN.out; omega), List.getElem?_eq_getElem _⟩
      obtain ⟨Aa, xca, ⟨a0, a1, a2, a3, a4⟩, ra⟩ := (ca' k x hx).keep kr
      obtain ⟨Ab, xcb, ⟨b0, b1, b2, b3, b4⟩, rb⟩ := (cb' k x hx).keep kr
      have hnc := HB2.out x (List.mem_of_getElem? hx)
      obtain ⟨nm, cs, sh, hg, bl⟩ := x
      simp only at a0 a1 a2 a3 a4 b0 b1 b2 b3 b4 ra rb hnc
      generalize cs.length = nc at a1 b1 ra rb hnc
      have RA := Lib.hid (ra.keep (Kp.refl wr).drew)
      have RB := Lib.hid (rb.keep (Kp.refl wr).drew)
      clear ra rb
      clear ca' cb' hx
      go_wp2_with fail
      go_region_held3 (fun w' => w'.cell? ⟨ga, oa + k * 5, none⟩ = some (.string nm) ∧ w'.cell? ⟨ga, oa + k * 5 + 1, none⟩ = some (.slice Aa nc xca) ∧ w'.cell? ⟨ga, oa + k * 5 + 2, none⟩ = some (.int .i64 sh) ∧ w'.cell? ⟨ga, oa + k * 5 + 3, none⟩ = some (.int .i64 hg) ∧ w'.cell? ⟨ga, oa + k * 5 + 4, none⟩ = some (.bool bl) ∧ w'.cell? ⟨gb, ob + k * 5, none⟩ = some (.string nm) ∧ w'.cell? ⟨gb, ob + k * 5 + 1, none⟩ = some (.slice Ab nc xcb) ∧ w'.cell? ⟨gb, ob + k * 5 + 2, none⟩ = some (.int .i64 sh) ∧ w'.cell? ⟨gb, ob + k * 5 + 3, none⟩ = some (.int .i64 hg) ∧ w'.cell? ⟨gb, ob + k * 5 + 4, none⟩ = some (.bool bl)) (first | assumption | go_keep)
        (first | (go_at_call 98; refine (eqTerrain_same _ _ _ _ _ _ _ _ _ cs _ RA.out RB.out hnc).mono ?_; rintro e w1 ⟨rfl, k1⟩; have s1 := keepc10 k1 (by assumption)))
      all_goals
        go_wp2_with fail
        go_roundw
        case rel => exact ⟨k + 1, by omega, by go_num, kr.drew.trans k1⟩
        case measure => simp [intOf]; omega
    · obtain rfl : k = n := by omega
      go_wp2_with fail
      go_ret
      exact ⟨rfl, kr⟩

set_option maxRecDepth 100000 in
set_option maxHeartbeats 2000000 in
theorem eqKindS_same (A B : Option Addr) (n ca cb : Nat) (l : List Knd) (w : World) (ha : RdK w A n l) (hb : RdK w B n l) (hn : n ≤ 1048576) :
    Calls Tryd.prog 62 #[.slice A n ca, .slice B n cb] w fun e w' => e = .returned (.bool true) ∧ Kp w w' := by
  have HA := Lib.hid ha.2
  have HB := Lib.hid hb.2
  have HN := Lib.hid ha.1
  skip
  clear ha hb
  go_enter Tryd.func62, Tryd.ntmps62
  go_wp2_with fail
  go_loopw [5] (fun i wr => ∃ k : Nat, k ≤ n ∧ i = .int .i64 k ∧ Kp w wr) (fun i _ => n - (intOf i).toNat)
  case atStart => exact ⟨0, by omega, rfl, Kp.refl _⟩
  case round =>
    obtain ⟨k, hk, rfl, kr⟩ := hrel
    by_cases hlt : k < n
    · have hlt' : (k : Int) < n := by omega
      obtain ⟨ga, oa, rfl, ca'⟩ := HA.out (by omega)
      obtain ⟨gb, ob, rfl, cb'⟩ := HB.out (by omega)
      obtain ⟨x, hx⟩ : ∃ x, l[k]? = some x := ⟨l[k]'(by have := HN.out; omega), List.getElem?_eq_getElem _⟩
      obtain ⟨a0, a1, a2, a3, a4, a5⟩ := (ca' k x hx).keep kr
      obtain ⟨b0, b1, b2, b3, b4, b5⟩ := (cb' k x hx).keep kr
      obtain ⟨nm, ks, km, kt, kz, kw⟩ := x
      simp only at a0 a1 a2 a3 a4 a5 b0 b1 b2 b3 b4 b5
      clear ca' cb' hx
      go_wp2_with fail
      go_region_held3 (fun w' => w'.cell? ⟨ga, oa + k * 6, none⟩ = some (.string nm) ∧ w'.cell? ⟨ga, oa + k * 6 + 1, none⟩ = some (.int .i64 ks) ∧ w'.cell? ⟨ga, oa + k * 6 + 2, none⟩ = some (.int .i64 km) ∧ w'.cell? ⟨ga, oa + k * 6 + 3, none⟩ = some (.int .i64 kt) ∧ w'.cell? ⟨ga, oa + k * 6 + 4, none⟩ = some (.bool kz) ∧ w'.cell? ⟨ga, oa + k * 6 + 5, none⟩ = some (.int .i64 kw) ∧ w'.cell? ⟨gb, ob + k * 6, none⟩ = some (.string nm) ∧ w'.cell? ⟨gb, ob + k * 6 + 1, none⟩ = some (.int .i64 ks) ∧ w'.cell? ⟨gb, ob + k * 6 + 2, none⟩ = some (.int .i64 km) ∧ w'.cell? ⟨gb, ob + k * 6 + 3, none⟩ = some (.int .i64 kt) ∧ w'.cell? ⟨gb, ob + k * 6 + 4, none⟩ = some (.bool kz) ∧ w'.cell? ⟨gb, ob + k * 6 + 5, none⟩ = some (.int .i64 kw)) (first | assumption | go_keep)
        (first | (go_at_call 99; refine (eqKind_same _ _ _ _ _ _ _).mono ?_; rintro e w1 ⟨rfl, k1⟩; have s1 := keepc12 k1 (by assumption)))
      all_goals
        go_wp2_with fail
        go_roundw
        case rel => exact ⟨k + 1, by omega, by go_num, kr.drew.trans k1⟩
        case measure => simp [intOf]; omega
    · obtain rfl : k = n := by omega
      go_wp2_with fail
      go_ret
      exact ⟨rfl, kr⟩

set_option maxRecDepth 100000 in
set_option maxHeartbeats 1000000 in
theorem eqRules_same (At Ak Bt Bk : Option Addr) (nt nk ct ck dt dk : Nat) (l : List Ter) (m : List Knd) (a b c d e : Int) (w : World) (ht : RdT w At nt l) (hk : RdK w Ak nk m) (gt : RdT w Bt nt l) (gk : RdK w Bk nk m) (hb1 : nt ≤ 1048576) (hb2 : nk ≤ 1048576) (hcb : ∀ x ∈ l, x.cost.length ≤ 1048576) :
    Calls Tryd.prog 17 #[rv (.slice At nt ct) (.slice Ak nk ck) a b c d e, rv (.slice Bt nt dt) (.slice Bk nk dk) a b c d e] w fun e' w' => e' = .returned (.bool true) ∧ Kp w w' := by
  have KA : Kp w ((w.alloc (.cells #[.slice At nt ct, .slice Ak nk ck, .int .i64 a, .int .i64 b, .int .i64 c, .int .i64 d, .int .i64 e] 31)).alloc (.cells #[.slice Bt nt dt, .slice Bk nk dk, .int .i64 a, .int .i64 b, .int .i64 c, .int .i64 d, .int .i64 e] 31)) := ((Kp.refl w).alloc _).alloc _
  have H1 := Lib.hid (ht.keep KA)
  have H2 := Lib.hid (gt.keep KA)
  have H3 := Lib.hid (hk.keep KA)
  have H4 := Lib.hid (gk.keep KA)
  have H5 := Lib.hid hcb
  have e1 : (a != a) = false := by simp
  have e2 : (b != b) = false := by simp
  have e3 : (c != c) = false := by simp
  have e4 : (d != d) = false := by simp
  have e5 : (e != e) = false := by simp
  clear ht hk gt gk hcb
  go_enter Tryd.func17, Tryd.ntmps17
  go_wp2_with fail
  refine (eqTerrainS_same _ _ _ _ _ l _ H1.out H2.out hb1 H5.out).mono ?_
  rintro x1 w1 ⟨rfl, k1⟩
  have p1 : w1.cell? ⟨w.heap.size, 1, none⟩ = some (.slice Ak nk ck) := k1.cell (by simp [go_sem])
  have p2 : w1.cell? ⟨w.heap.size, 2, none⟩ = some (.int .i64 a) := k1.cell (by simp [go_sem])
  have p3 : w1.cell? ⟨w.heap.size, 3, none⟩ = some (.int .i64 b) := k1.cell (by simp [go_sem])
  have p4 : w1.cell? ⟨w.heap.size, 4, none⟩ = some (.int .i64 c) := k1.cell (by simp [go_sem])
  have p5 : w1.cell? ⟨w.heap.size, 5, none⟩ = some (.int .i64 d) := k1.cell (by simp [go_sem])
  have p6 : w1.cell? ⟨w.heap.size, 6, none⟩ = some (.int .i64 e) := k1.cell (by simp [go_sem])
  have q1 : w1.cell? ⟨w.heap.size + 1, 1, none⟩ = some (.slice Bk nk dk) := k1.cell (by simp [go_sem])
  have q2 : w1.cell? ⟨w.heap.size + 1, 2, none⟩ = some (.int .i64 a) := k1.cell (by simp [go_sem])
  have q3 : w1.cell? ⟨w.heap.size + 1, 3, none⟩ = some (.int .i64 b) := k1.cell (by simp [go_sem])
  have q4 : w1.cell? ⟨w.heap.size + 1, 4, none⟩ = some (.int .i64 c) := k1.cell (by simp [go_sem])
  have q5 : w1.cell? ⟨w.heap.size + 1, 5, none⟩ = some (.int .i64 d) := k1.cell (by simp [go_sem])
  have q6 : w1.cell? ⟨w.heap.size + 1, 6, none⟩ = some (.int .i64 e) := k1.cell (by simp [go_sem])
  have K1 : Kp w w1 := KA.trans k1
  have H3b := Lib.hid (H3.out.keep k1)
  have H4b := Lib.hid (H4.out.keep k1)
  clear k1 KA
  go_wp2_with fail
  refine (eqKindS_same _ _ _ _ _ m _ H3b.out H4b.out hb2).mono ?_
  rintro x2 w2 ⟨rfl, k2⟩
  replace p2 := k2.cell p2
  replace p3 := k2.cell p3
  replace p4 := k2.cell p4
  replace p5 := k2.cell p5
  replace p6 := k2.cell p6
  replace q2 := k2.cell q2
  replace q3 := k2.cell q3
  replace q4 := k2.cell q4
  replace q5 := k2.cell q5
  replace q6 := k2.cell q6
  have K2 : Kp w w2 := K1.trans k2
  clear k2 K1 p1 q1
  go_wp2_with fail
  go_ret
  exact ⟨rfl, K2⟩

end Go.Proofs.YtkkcnofplddbmaaDoor
