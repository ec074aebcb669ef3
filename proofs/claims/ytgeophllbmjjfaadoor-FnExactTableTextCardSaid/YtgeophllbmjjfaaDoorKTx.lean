/-
  The text of a combat table, as the reference writes it.
-/
import Derived.Test.YtgeophllbmjjfaaDoorDig
import Derived.Test.YtgeophllbmjjfaaDoorTbS
namespace Go.Proofs.YtgeophllbmjjfaaDoor
open Go.RowKit

/-- The odds of a column, all columns, all rows, a table, as bytes. -/
def colT (x : Int × Int) : List UInt8 := Lib.decDigits x.1.toNat ++ [47] ++ Lib.decDigits x.2.toNat
def colsT (co : List (Int × Int)) : List UInt8 := co.flatMap fun x => 32 :: colT x
def rowsT (rs : List (List Int)) : List UInt8 := rs.flatMap fun l => digs l ++ [10]
def tabTx (co : List (Int × Int)) (d : Int) (rs : List (List Int)) : List UInt8 :=
  [111, 100, 100, 115] ++ colsT co ++ ([32, 100, 105, 99, 101, 32] ++ Lib.decDigits d.toNat ++ [10]) ++ rowsT rs

theorem colsT_more {l : List (Int × Int)} {q : Nat} {x : Int × Int} (h : l[q]? = some x) : colsT (l.take (q + 1)) = colsT (l.take q) ++ (32 :: colT x) := by
  rw [List.take_add_one, h]
  simp [colsT]
theorem rowsT_more {l : List (List Int)} {q : Nat} {x : List Int} (h : l[q]? = some x) : rowsT (l.take (q + 1)) = rowsT (l.take q) ++ (digs x ++ [10]) := by
  rw [List.take_add_one, h]
  simp [rowsT]
theorem colT_len {x : Int × Int} (h : x.1 < 100) (h' : x.2 < 100) : (colT x).length ≤ 5 := by
  have h1 := dec_len (n := x.1.toNat) (by omega)
  have h2 := dec_len (n := x.2.toNat) (by omega)
  simp only [colT, List.length_append, List.length_cons, List.length_nil]
  omega
theorem colsT_len : ∀ (l : List (Int × Int)), (∀ x ∈ l, x.1 < 100 ∧ x.2 < 100) → (colsT l).length ≤ 6 * l.length
  | [], _ => by simp [colsT]
  | x :: l, h => by
    have h1 := colsT_len l (fun y hy => h y (List.mem_cons_of_mem _ hy))
    have h2 := h x (List.mem_cons_self ..)
    have h3 := colT_len h2.1 h2.2
    have e : colsT (x :: l) = (32 :: colT x) ++ colsT l := by simp [colsT]
    rw [e, List.length_append, List.length_cons, List.length_cons]
    omega
theorem rowsT_len (n : Nat) : ∀ (l : List (List Int)), (∀ x ∈ l, x.length ≤ n ∧ ∀ y ∈ x, 0 ≤ y ∧ y < 100) → (rowsT l).length ≤ (2 * n + 1) * l.length
  | [], _ => by simp [rowsT]
  | x :: l, h => by
    have h1 := rowsT_len n l (fun y hy => h y (List.mem_cons_of_mem _ hy))
    have h2 := h x (List.mem_cons_self ..)
    have h3 := digs_len x h2.2
    have e : rowsT (x :: l) = (digs x ++ [10]) ++ rowsT l := by simp [rowsT]
    have e2 : (2 * n + 1) * (l.length + 1) = (2 * n + 1) * l.length + (2 * n + 1) := by rw [Nat.mul_add, Nat.mul_one]
    rw [e, List.length_append, List.length_append, List.length_cons, List.length_cons, List.length_nil, e2]
    omega

set_option maxRecDepth 100000 in
set_option maxHeartbeats 8000000 in
theorem kText_any (c r : Value) (d : Int) (co : List (Int × Int)) (rs : List (List Int)) (w : World) (h : CtAt w c r co rs) (hd : 0 ≤ d ∧ d < 100) (hco : ∀ x ∈ co, (0 ≤ x.1 ∧ x.1 < 100) ∧ 0 ≤ x.2 ∧ x.2 < 100) (hrs : ∀ x ∈ rs, x.length ≤ 1048576 ∧ ∀ y ∈ x, 0 ≤ y ∧ y < 100) :
    Calls Tryd.prog 17 #[cv c d r] w fun e w' => e = .returned (.string (txt (tabTx co d rs))) ∧ Kp w w' := by
  obtain ⟨A, c1, ec, hA⟩ := h.rc
  obtain ⟨B, c2, vs, er, hvs, hB, hI⟩ := h.rr
  have hbc := h.bc
  have hbr := h.br
  obtain ⟨m, hm⟩ : ∃ m, co.length = m := ⟨_, rfl⟩
  obtain ⟨n, hn⟩ : ∃ n, rs.length = n := ⟨_, rfl⟩
  rw [hm] at ec hA hbc
  rw [hn] at er hvs hB hbr
  subst ec er
  have HA := Lib.hid hA
  have HB := Lib.hid hB
  have HI := Lib.hid hI
  have HV := Lib.hid hvs
  have HM := Lib.hid hm
  have HN := Lib.hid hn
  have HC := Lib.hid hco
  have HR := Lib.hid hrs
  have HCL := Lib.hid (fun (q : Nat) => colsT_len (co.take q) (fun x hx => ⟨(hco x (List.mem_of_mem_take hx)).1.2, (hco x (List.mem_of_mem_take hx)).2.2⟩))
  have HRL := Lib.hid (fun (q : Nat) => rowsT_len 1048576 (rs.take q) (fun x hx => hrs x (List.mem_of_mem_take hx)))
  clear h hvs hA hB hI hm hn hco hrs
  obtain ⟨dn, rfl⟩ : ∃ dn : Nat, d = dn := ⟨d.toNat, by omega⟩
  go_enter Tryd.func17, Tryd.ntmps17
  go_wp2_with fail
  go_loopw [3, 5, 13] (fun s _ i wr => ∃ (q : Nat) (z : ByteArray), q ≤ m ∧ i = .int .i64 q ∧ s = .string z ∧ Hid (z = txt ([111, 100, 100, 115] ++ colsT (co.take q))) ∧ wr.cell? ⟨w.heap.size, 0, none⟩ = some (.slice A m c1) ∧ wr.cell? ⟨w.heap.size, 1, none⟩ = some (.int .i64 (dn : Int)) ∧ wr.cell? ⟨w.heap.size, 2, none⟩ = some (.slice B n c2) ∧ Kp w wr) (fun _ _ i _ => m - (intOf i).toNat)
  case atStart => exact ⟨0, _, by omega, rfl, rfl, Lib.hid (by simp [colsT, txt]), by simp [go_sem], by simp [go_sem], by simp [go_sem], (Kp.refl _).alloc _⟩
  case round =>
    obtain ⟨q, z, hq, rfl, rfl, HZ, t0, t1, t2, kr⟩ := hrel
    have hw := kr.size
    by_cases hlt : q < m
    · have hlt' : (q : Int) < m := by omega
      obtain ⟨x, hx⟩ : ∃ x, co[q]? = some x := ⟨co[q]'(by have := HM.out; omega), List.getElem?_eq_getElem _⟩
      obtain ⟨g, off, rfl, hc⟩ := HA.out (by have := HM.out; omega)
      obtain ⟨c10, c11⟩ := hc q x hx
      have a0 := kr.cell c10
      have a1 := kr.cell c11
      have hx1 := HC.out x (List.mem_of_getElem? hx)
      have HM2 := Lib.hid (colsT_more hx)
      obtain ⟨xa, xb⟩ := x
      simp only at a0 a1 hx1
      obtain ⟨a, rfl⟩ : ∃ k : Nat, xa = k := ⟨xa.toNat, by omega⟩
      obtain ⟨b, rfl⟩ : ∃ k : Nat, xb = k := ⟨xb.toNat, by omega⟩
      have ha2 := dec_len (n := a) (by omega)
      have hb2 := dec_len (n := b) (by omega)
      have hz2 : z.size ≤ 4 + 6 * 1048576 := by
        have h1 := HCL.out q
        have h2 := congrArg ByteArray.size HZ.out
        rw [txt_size, List.length_append] at h2
        simp only [List.length_cons, List.length_nil, List.length_take] at h1 h2
        omega
      obtain ⟨sa, hsa⟩ : ∃ y, y = decT a := ⟨_, rfl⟩
      obtain ⟨sb, hsb⟩ : ∃ y, y = decT b := ⟨_, rfl⟩
      have hsa2 : sa.size ≤ 2 := by rw [hsa, decT_txt, txt_size]; exact ha2
      have hsb2 : sb.size ≤ 2 := by rw [hsb, decT_txt, txt_size]; exact hb2
      have HZ2 : Hid (z ++ (((ByteArray.mk #[32] ++ sa) ++ ByteArray.mk #[47]) ++ sb) = txt ([111, 100, 100, 115] ++ colsT (co.take (q + 1)))) := Lib.hid (by
        rw [HM2.out, HZ.out, hsa, hsb, decT_txt, decT_txt, show ByteArray.mk #[32] = txt [32] from rfl, show ByteArray.mk #[47] = txt [47] from rfl, txt_app, txt_app, txt_app, txt_app]
        simp [colT])
      have CA : Hid (∀ w, Calls Tryd.prog 37 #[.int .i64 (a : Int)] w fun e w' => e = .returned (.string sa) ∧ Kp w w') := Lib.hid fun w => by rw [hsa]; exact l1Num_any a w (by omega)
      have CB : Hid (∀ w, Calls Tryd.prog 37 #[.int .i64 (b : Int)] w fun e w' => e = .returned (.string sb) ∧ Kp w w') := Lib.hid fun w => by rw [hsb]; exact l1Num_any b w (by omega)
      have q1 : (ByteArray.mk #[32]).size = 1 := rfl
      have q2 : (ByteArray.mk #[47]).size = 1 := rfl
      have q3 : (ByteArray.mk #[32] ++ sa).size = 1 + sa.size := by rw [ByteArray.size_append, q1]
      have q4 : ((ByteArray.mk #[32] ++ sa) ++ ByteArray.mk #[47]).size = 1 + sa.size + 1 := by rw [ByteArray.size_append, q3, q2]
      have q5 : (((ByteArray.mk #[32] ++ sa) ++ ByteArray.mk #[47]) ++ sb).size = 1 + sa.size + 1 + sb.size := by rw [ByteArray.size_append, q4]
      have y1 : ¬ 9223372036854775807 < 1 + sa.size := by omega
      have y2 : ¬ 9223372036854775807 < (ByteArray.mk #[32] ++ sa).size + 1 := by omega
      have x2 : ¬ 9223372036854775807 < 1 + sa.size + 1 := by omega
      have y3 : ¬ 9223372036854775807 < ((ByteArray.mk #[32] ++ sa) ++ ByteArray.mk #[47]).size + sb.size := by omega
      have x3 : ¬ 9223372036854775807 < 1 + sa.size + 1 + sb.size := by omega
      have y4 : ¬ 9223372036854775807 < z.size + (((ByteArray.mk #[32] ++ sa) ++ ByteArray.mk #[47]) ++ sb).size := by omega
      have x4 : ¬ 9223372036854775807 < z.size + (1 + sa.size + 1 + sb.size) := by omega
      clear q1 q2 q3 q4 q5
      clear hx hc hx1 c10 c11 hsa hsb ha2 hb2
      have s1 : (wr.alloc (.cells #[.int .i64 (a : Int), .int .i64 (b : Int)] 47)).drew.cell? ⟨wr.heap.size, 0, none⟩ = some (.int .i64 (a : Int)) ∧ (wr.alloc (.cells #[.int .i64 (a : Int), .int .i64 (b : Int)] 47)).drew.cell? ⟨wr.heap.size, 1, none⟩ = some (.int .i64 (b : Int)) ∧ Kp wr (wr.alloc (.cells #[.int .i64 (a : Int), .int .i64 (b : Int)] 47)).drew := ⟨by simp [go_sem], by simp [go_sem], ((Kp.refl _).alloc _).drew⟩
      go_wp2_with fail
      refine wp_region_held_drew (S := (fun w' => w'.cell? ⟨wr.heap.size, 0, none⟩ = some (.int .i64 (a : Int)) ∧ w'.cell? ⟨wr.heap.size, 1, none⟩ = some (.int .i64 (b : Int)) ∧ Kp wr w')) (by kernel_rfl) ?_ (fun hHeld => ?_)
      · exact s1
      refine wpAnyH_take (i := 0) (oi := ⟨some 17, _, _, _, _, _⟩) (v := ?_) rfl (by kernel_rfl) (by kernel_rfl) (by kernel_rfl) (fun _ _ _ h => h) (Or.inl ⟨by rfl, ?_⟩) (by assumption) ?_
      rotate_left
      · intro w hSw; (try dsimp only at hSw); go_simp; (all_goals with_reducible rfl)
      simp only [Act.put, List.setIfInBounds_toArray, List.set_cons_zero, List.set_cons_succ]
      refine wpAnyH_take (i := 1) (oi := ⟨some 18, _, _, _, _, _⟩) (v := ?_) rfl (by kernel_rfl) (by kernel_rfl) (by kernel_rfl) (fun _ _ _ h => h) (Or.inl ⟨by rfl, ?_⟩) (by assumption) ?_
      rotate_left
      · intro w hSw; (try dsimp only at hSw); go_simp; (all_goals with_reducible rfl)
      simp only [Act.put, List.setIfInBounds_toArray, List.set_cons_zero, List.set_cons_succ]
      refine wpAnyH_take (i := 2) (oi := ⟨some 19, _, _, _, _, _⟩) (v := ?_) rfl (by kernel_rfl) (by kernel_rfl) (by kernel_rfl) (fun _ _ _ h => h) (Or.inl ⟨by rfl, ?_⟩) (by assumption) ?_
      rotate_left
      · intro w hSw; (try dsimp only at hSw); go_simp; (all_goals with_reducible rfl)
      simp only [Act.put, List.setIfInBounds_toArray, List.set_cons_zero, List.set_cons_succ]
      refine wpAnyH_take (i := 6) (oi := ⟨some 23, _, _, _, _, _⟩) (v := ?_) rfl (by kernel_rfl) (by kernel_rfl) (by kernel_rfl) (fun _ _ _ h => h) (Or.inl ⟨by rfl, ?_⟩) (by assumption) ?_
      rotate_left
      · intro w hSw; (try dsimp only at hSw); go_simp; (all_goals with_reducible rfl)
      simp only [Act.put, List.setIfInBounds_toArray, List.set_cons_zero, List.set_cons_succ]
      refine wpAnyH_take (i := 7) (oi := ⟨some 24, _, _, _, _, _⟩) (v := ?_) rfl (by kernel_rfl) (by kernel_rfl) (by kernel_rfl) (fun _ _ _ h => h) (Or.inl ⟨by rfl, ?_⟩) (by assumption) ?_
      rotate_left
      · intro w hSw; (try dsimp only at hSw); go_simp; (all_goals with_reducible rfl)
      simp only [Act.put, List.setIfInBounds_toArray, List.set_cons_zero, List.set_cons_succ]
      refine wpAnyH_ready (rs := [3]) (by kernel_rfl) (by simp) ?_
      refine AllReadyH.cons (o := ⟨some 20, _, _, _, _, _⟩) rfl (fun K hK => ?_) AllReadyH.nil
      go_simp
      refine (CA.out _).mono ?_; rintro e1 w1 ⟨rfl, k1⟩; have s2 : w1.cell? ⟨wr.heap.size, 0, none⟩ = some (.int .i64 (a : Int)) ∧ w1.cell? ⟨wr.heap.size, 1, none⟩ = some (.int .i64 (b : Int)) ∧ Kp wr w1 := ⟨k1.cell s1.1, k1.cell s1.2.1, s1.2.2.trans k1⟩
      go_wp2_with fail
      refine hK.out _ _ ?_ (fun hHeld => ?_)
      · (try dsimp only); (first | assumption | exact s3 | exact s2 | exact s1)
      clear hK K
      try simp only [Act.put, List.setIfInBounds_toArray, List.set_cons_zero, List.set_cons_succ]
      refine wpAnyH_take (i := 4) (oi := ⟨some 21, _, _, _, _, _⟩) (v := ?_) rfl (by kernel_rfl) (by kernel_rfl) (by kernel_rfl) (fun _ _ _ h => h) (Or.inl ⟨by rfl, ?_⟩) (by assumption) ?_
      rotate_left
      · intro w hSw; (try dsimp only at hSw); go_simp; (all_goals with_reducible rfl)
      simp only [Act.put, List.setIfInBounds_toArray, List.set_cons_zero, List.set_cons_succ]
      refine wpAnyH_take (i := 5) (oi := ⟨some 22, _, _, _, _, _⟩) (v := ?_) rfl (by kernel_rfl) (by kernel_rfl) (by kernel_rfl) (fun _ _ _ h => h) (Or.inl ⟨by rfl, ?_⟩) (by assumption) ?_
      rotate_left
      · intro w hSw; (try dsimp only at hSw); go_simp; (all_goals with_reducible rfl)
      simp only [Act.put, List.setIfInBounds_toArray, List.set_cons_zero, List.set_cons_succ]
      refine wpAnyH_ready (rs := [8]) (by kernel_rfl) (by simp) ?_
      refine AllReadyH.cons (o := ⟨some 25, _, _, _, _, _⟩) rfl (fun K hK => ?_) AllReadyH.nil
      go_simp
      refine (CB.out _).mono ?_; rintro e2 w2 ⟨rfl, k2⟩; have s3 : w2.cell? ⟨wr.heap.size, 0, none⟩ = some (.int .i64 (a : Int)) ∧ w2.cell? ⟨wr.heap.size, 1, none⟩ = some (.int .i64 (b : Int)) ∧ Kp wr w2 := ⟨k2.cell s2.1, k2.cell s2.2.1, s2.2.2.trans k2⟩; have k3 := Lib.hid (kr.trans s3.2.2)
      go_wp2_with fail
      refine hK.out _ _ ?_ (fun hHeld => ?_)
      · (try dsimp only); (first | assumption | exact s3 | exact s2 | exact s1)
      clear hK K
      try simp only [Act.put, List.setIfInBounds_toArray, List.set_cons_zero, List.set_cons_succ]
      refine wpAnyH_take (i := 9) (oi := ⟨some 26, _, _, _, _, _⟩) (v := ?_) rfl (by kernel_rfl) (by kernel_rfl) (by kernel_rfl) (fun _ _ _ h => h) (Or.inl ⟨by rfl, ?_⟩) (by assumption) ?_
      rotate_left
      · intro w hSw; (try dsimp only at hSw); go_simp; (all_goals with_reducible rfl)
      simp only [Act.put, List.setIfInBounds_toArray, List.set_cons_zero, List.set_cons_succ]
      refine wpAnyH_take (i := 10) (oi := ⟨some 27, _, _, _, _, _⟩) (v := ?_) rfl (by kernel_rfl) (by kernel_rfl) (by kernel_rfl) (fun _ _ _ h => h) (Or.inl ⟨by rfl, ?_⟩) (by assumption) ?_
      rotate_left
      · intro w hSw; (try dsimp only at hSw); go_simp; (all_goals with_reducible rfl)
      simp only [Act.put, List.setIfInBounds_toArray, List.set_cons_zero, List.set_cons_succ]
      refine wpAnyH_take (i := 11) (oi := ⟨some 3, _, _, _, _, _⟩) (v := ?_) rfl (by kernel_rfl) (by kernel_rfl) (by kernel_rfl) (fun _ _ _ h => h) (Or.inl ⟨by rfl, ?_⟩) (by assumption) ?_
      rotate_left
      · intro w hSw; (try dsimp only at hSw); go_simp; (all_goals with_reducible rfl)
      simp only [Act.put, List.setIfInBounds_toArray, List.set_cons_zero, List.set_cons_succ]
      refine wpAnyH_done (by kernel_rfl) ?_ _
      go_wp2_with fail
      go_roundw
      case rel => exact ⟨q + 1, _, by omega, by go_num, rfl, HZ2, s3.2.2.cell t0, s3.2.2.cell t1, s3.2.2.cell t2, k3.out⟩
      case measure => simp [intOf]; omega
    · obtain rfl : q = m := by omega
      have HT := Lib.hid (show co.take q = co from List.take_of_length_le (by rw [HM.out]; omega))
      have hz2 : z.size ≤ 4 + 6 * 1048576 := by
        have h1 := HCL.out q
        have h2 := congrArg ByteArray.size HZ.out
        rw [txt_size, List.length_append] at h2
        simp only [List.length_cons, List.length_nil, List.length_take] at h1 h2
        omega
      obtain ⟨sd, hsd⟩ : ∃ y, y = decT dn := ⟨_, rfl⟩
      have hsd2 : sd.size ≤ 2 := by rw [hsd, decT_txt, txt_size]; exact dec_len (by omega)
      have CD : Hid (∀ w, Calls Tryd.prog 37 #[.int .i64 (dn : Int)] w fun e w' => e = .returned (.string sd) ∧ Kp w w') := Lib.hid fun w => by rw [hsd]; exact l1Num_any dn w (by omega)
      obtain ⟨HD, hHD⟩ : ∃ y, y = [111, 100, 100, 115] ++ colsT co ++ ([32, 100, 105, 99, 101, 32] ++ Lib.decDigits dn ++ [10]) := ⟨_, rfl⟩
      have HF : Hid (tabTx co dn rs = HD ++ rowsT rs) := Lib.hid (by rw [hHD]; rfl)
      have HZ2 : Hid (z ++ ((ByteArray.mk #[32, 100, 105, 99, 101, 32] ++ sd) ++ ByteArray.mk #[10]) = txt (HD ++ rowsT (rs.take 0))) := Lib.hid (by
        rw [hHD, HZ.out, HT.out, hsd, decT_txt, show ByteArray.mk #[32, 100, 105, 99, 101, 32] = txt [32, 100, 105, 99, 101, 32] from rfl, show ByteArray.mk #[10] = txt [10] from rfl, txt_app, txt_app, txt_app]
        simp [rowsT])
      have q1 : (ByteArray.mk #[32, 100, 105, 99, 101, 32]).size = 6 := rfl
      have q2 : (ByteArray.mk #[10]).size = 1 := rfl
      have q3 : (ByteArray.mk #[32, 100, 105, 99, 101, 32] ++ sd).size = 6 + sd.size := by rw [ByteArray.size_append, q1]
      have q4 : ((ByteArray.mk #[32, 100, 105, 99, 101, 32] ++ sd) ++ ByteArray.mk #[10]).size = 6 + sd.size + 1 := by rw [ByteArray.size_append, q3, q2]
      have HDZ : Hid (HD.length ≤ 1073741824) := Lib.hid (by
        have h2 := congrArg ByteArray.size HZ2.out
        rw [txt_size, ByteArray.size_append, q4, List.length_append] at h2
        omega)
      have y1 : ¬ 9223372036854775807 < 6 + sd.size := by omega
      have y2 : ¬ 9223372036854775807 < (ByteArray.mk #[32, 100, 105, 99, 101, 32] ++ sd).size + 1 := by omega
      have x2 : ¬ 9223372036854775807 < 6 + sd.size + 1 := by omega
      have y4 : ¬ 9223372036854775807 < z.size + ((ByteArray.mk #[32, 100, 105, 99, 101, 32] ++ sd) ++ ByteArray.mk #[10]).size := by omega
      have x4 : ¬ 9223372036854775807 < z.size + (6 + sd.size + 1) := by omega
      clear q1 q2 q3 q4 hsd hHD
      go_wp2_with fail
      refine (CD.out _).mono ?_
      rintro e1 w1 ⟨rfl, k1⟩
      have t21 := k1.cell t2
      have kr1 := kr.trans k1
      clear t0 t1 t2 kr HZ
      go_wp2_with fail
      clear y1 y2 x2 y4 x4 hz2
      go_loopw [3, 7, 9, 39] (fun s _ _ i wr => ∃ (q : Nat) (z : ByteArray), q ≤ n ∧ i = .int .i64 q ∧ s = .string z ∧ Hid (z = txt (HD ++ rowsT (rs.take q))) ∧ Kp w wr) (fun _ _ _ i _ => n - (intOf i).toNat)
      case atStart => exact ⟨0, _, by omega, rfl, rfl, HZ2, kr1⟩
      case round =>
        clear HZ2 kr1 t21 k1
        obtain ⟨q, z, hq2, rfl, rfl, HZ, kr⟩ := hrel
        by_cases hlt : q < n
        · have hlt' : (q : Int) < n := by omega
          obtain ⟨row, hrow⟩ : ∃ x, rs[q]? = some x := ⟨rs[q]'(by have := HN.out; omega), List.getElem?_eq_getElem _⟩
          obtain ⟨vx, hvx⟩ : ∃ x, vs[q]? = some x := ⟨vs[q]'(by have := HV.out; omega), List.getElem?_eq_getElem _⟩
          obtain ⟨g, off, rfl, hc⟩ := HB.out (by omega)
          have a0 := kr.cell (hc q vx hvx)
          obtain ⟨Ar, cr, rfl, hr2⟩ := HI.out q vx row hvx hrow
          obtain ⟨hrl, hrb⟩ := HR.out row (List.mem_of_getElem? hrow)
          have HB2 := Lib.hid hrb
          have HRM := Lib.hid (rowsT_more hrow)
          have HRQ : Hid ((rowsT (rs.take q)).length ≤ 2199025352704) := Lib.hid (by
            have h1 := HRL.out q
            have h2 : (rs.take q).length ≤ 1048576 := by rw [List.length_take]; omega
            have h3 : (2 * 1048576 + 1) * (rs.take q).length ≤ (2 * 1048576 + 1) * 1048576 := Nat.mul_le_mul_left _ h2
            omega)
          have HDG := Lib.hid (fun (k : Nat) => digs_len (row.take k) (fun y hy => hrb y (List.mem_of_mem_take hy)))
          obtain ⟨nr, hnr⟩ : ∃ y, row.length = y := ⟨_, rfl⟩
          rw [hnr] at a0 hr2 hrl
          have HNR := Lib.hid hnr
          have HA2 := Lib.hid hr2
          obtain ⟨P, hP⟩ : ∃ y, y = HD ++ rowsT (rs.take q) := ⟨_, rfl⟩
          have HP := Lib.hid hP
          have HPL : Hid (P.length ≤ 2200099094528) := Lib.hid (by
            have h1 := HDZ.out
            have h2 := HRQ.out
            rw [hP, List.length_append]
            omega)
          rw [← hP] at HZ
          have HZ0 : Hid (z = txt (P ++ digs (row.take 0))) := Lib.hid (by rw [HZ.out]; simp [digs])
          clear hrow hvx hc hrb hnr hr2 hP HZ
          go_wp2_with fail
          go_loopw [3, 9, 45] (fun s _ i wr => ∃ (k : Nat) (z : ByteArray), k ≤ nr ∧ i = .int .i64 k ∧ s = .string z ∧ Hid (z = txt (P ++ digs (row.take k))) ∧ Kp w wr) (fun _ _ i _ => nr - (intOf i).toNat)
          case atStart => exact ⟨0, _, by omega, rfl, rfl, HZ0, kr⟩
          case round =>
            clear HZ0 kr a0
            obtain ⟨k, z, hk, rfl, rfl, HZ, kr⟩ := hrel
            have hzz : z.size ≤ 2200099094528 + 2 * 1048576 := by
              have h1 := HDG.out k
              have h3 := HPL.out
              have h2 := congrArg ByteArray.size HZ.out
              rw [txt_size, List.length_append] at h2
              simp only [List.length_take] at h1 h2
              omega
            by_cases hkt : k < nr
            · have hkt' : (k : Int) < nr := by omega
              obtain ⟨x, hx⟩ : ∃ x, row[k]? = some x := ⟨row[k]'(by have := HNR.out; omega), List.getElem?_eq_getElem _⟩
              obtain ⟨g, off, rfl, hc⟩ := HA2.out (by have := HNR.out; omega)
              have a0 := kr.cell (hc k x hx)
              have hx1 := HB2.out x (List.mem_of_getElem? hx)
              have HM3 := Lib.hid (digs_more hx)
              obtain ⟨a, rfl⟩ : ∃ y : Nat, x = y := ⟨x.toNat, by omega⟩
              obtain ⟨sa, hsa⟩ : ∃ y, y = decT a := ⟨_, rfl⟩
              have hsa2 : sa.size ≤ 2 := by rw [hsa, decT_txt, txt_size]; exact dec_len (by omega)
              have CA : Hid (∀ w, Calls Tryd.prog 37 #[.int .i64 (a : Int)] w fun e w' => e = .returned (.string sa) ∧ Kp w w') := Lib.hid fun w => by rw [hsa]; exact l1Num_any a w (by omega)
              have HZ2 : Hid (z ++ sa = txt (P ++ digs (row.take (k + 1)))) := Lib.hid (by
                rw [HM3.out, HZ.out, hsa, decT_txt, txt_app]
                simp)
              have y1 : ¬ 9223372036854775807 < z.size + sa.size := by omega
              clear hx hc hx1 hsa
              go_wp2_with fail
              refine (CA.out _).mono ?_
              rintro e1 w1 ⟨rfl, k1⟩
              have kr1 := kr.trans k1
              go_wp2_with fail
              go_roundw
              case rel => exact ⟨k + 1, _, by omega, by go_num, rfl, HZ2, kr1⟩
              case measure => simp [intOf]; omega
            · obtain rfl : k = nr := by omega
              have HT2 := Lib.hid (show row.take k = row from List.take_of_length_le (by rw [HNR.out]; omega))
              have HZ2 : Hid (z ++ ByteArray.mk #[10] = txt (HD ++ rowsT (rs.take (q + 1)))) := Lib.hid (by
                rw [HRM.out, HZ.out, HT2.out, HP.out, show ByteArray.mk #[10] = txt [10] from rfl, txt_app]
                simp)
              have y1 : ¬ 9223372036854775807 < z.size + 1 := by omega
              go_wp2_with fail
              go_roundw
              case rel => exact ⟨q + 1, _, by omega, by go_num, rfl, HZ2, kr⟩
              case measure => simp [intOf]; omega
        · obtain rfl : q = n := by omega
          have HT3 := Lib.hid (show rs.take q = rs from List.take_of_length_le (by rw [HN.out]; omega))
          go_wp2_with fail
          go_ret
          exact ⟨by rw [HF.out, HZ.out, HT3.out]; rfl, kr⟩
end Go.Proofs.YtgeophllbmjjfaaDoor
