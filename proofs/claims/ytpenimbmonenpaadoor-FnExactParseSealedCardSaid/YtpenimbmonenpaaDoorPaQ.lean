/-
  SealedText of both sides. Nothing that was there is changed. The named variables hold what the program's text lays.
-/
import Derived.Test.YtpenimbmonenpaaDoorPaP
import Derived.Test.YtpenimbmonenpaaDoorSlP
import Derived.Test.YtpenimbmonenpaaDoorSlS
import Derived.Test.YtpenimbmonenpaaDoorTxt
namespace Go.Proofs.YtpenimbmonenpaaDoor
open Go.RowKit

/-- The text of a seal. -/
def sealTx (e : Sea) : List UInt8 := [115, 101, 97, 108] ++ numsT [e.t, e.s, e.x]
theorem itoaN {n : Int} (h : 0 ≤ n) : Lib.itoa n = Lib.decDigits n.toNat := by
  unfold Lib.itoa
  rw [if_neg (by omega)]
theorem seaB_bd {e : Sea} (h : seaB e = true) : (0 ≤ e.t ∧ e.t ≤ 30) ∧ (0 ≤ e.s ∧ e.s ≤ 1) ∧ 0 ≤ e.x ∧ e.x ≤ 4611686016279904236 := by
  simpa [seaB, seedB, spB, Bool.and_eq_true] using h
theorem sealTx_dec {e : Sea} (h : seaB e = true) : sealTx e = [115, 101, 97, 108] ++ (32 :: Lib.decDigits e.t.toNat) ++ (32 :: Lib.decDigits e.s.toNat) ++ (32 :: Lib.decDigits e.x.toNat) := by
  obtain ⟨h1, h2, h3⟩ := seaB_bd h
  simp only [sealTx, numsT, List.flatMap_cons, List.flatMap_nil, itoaN h1.1, itoaN h2.1, itoaN h3.1, List.append_nil, List.append_assoc]
theorem dec_short (n : Nat) (h : n ≤ 9000000000000000000) : (Lib.decDigits n).length ≤ 19 := dec_le19 18 n (by omega)
theorem sealTx_len {e : Sea} (h : seaB e = true) : (sealTx e).length ≤ 64 := by
  obtain ⟨h1, h2, h3⟩ := seaB_bd h
  rw [sealTx_dec h]
  have a := dec_short e.t.toNat (by omega)
  have b := dec_short e.s.toNat (by omega)
  have c := dec_short e.x.toNat (by omega)
  simp only [List.length_append, List.length_cons, List.length_nil]
  omega
/-- What SealedText answers. -/
def stV (B : Bool) (l : List UInt8) : ByteArray := if B = true then txt l else ⟨#[]⟩
theorem keep4k {w w1 w2 : World} {p0 p1 p2 : Addr} {v0 v1 v2 : Value} (k : Kp w1 w2) (h : w1.cell? p0 = some v0 ∧ w1.cell? p1 = some v1 ∧ w1.cell? p2 = some v2 ∧ Kp w w1) : w2.cell? p0 = some v0 ∧ w2.cell? p1 = some v1 ∧ w2.cell? p2 = some v2 ∧ Kp w w2 :=
  ⟨k.cell h.1, k.cell h.2.1, k.cell h.2.2.1, h.2.2.2.trans k⟩

set_option maxRecDepth 100000 in
set_option maxHeartbeats 4000000 in
theorem sealedTextP_any (t s x : Int) (w : World) (hg0 : SpanAt w 0 0 30) (hg1 : SpanAt w 1 0 1) (hg2 : SpanAt w 2 0 4611686016279904236) (hp : PwAt w) :
    Calls Tryd.prog 7 #[slx t s x] w fun e w' => e = .returned (.tuple #[.string (stV (seaB ⟨t, s, x⟩) (sealTx ⟨t, s, x⟩)), .bool (seaB ⟨t, s, x⟩)]) ∧ Kp w w' := by
  have K0 : Kp w (w.alloc (.cells #[.int .i64 t, .int .i64 s, .int .i64 x] 26)) := (Kp.refl w).alloc _
  have R0 : SeaAt (w.alloc (.cells #[.int .i64 t, .int .i64 s, .int .i64 x] 26)) w.heap.size 0 ⟨t, s, x⟩ := ⟨by simp [go_sem], by simp [go_sem], by simp [go_sem]⟩
  have CI := Lib.hid (isSealedP_any t s x (w.alloc (.cells #[.int .i64 t, .int .i64 s, .int .i64 x] 26)) (K0.two hg0) (K0.two hg1) (K0.two hg2))
  cases hok : seaB ⟨t, s, x⟩
  · rw [hok] at CI
    clear hok
    go_enter Tryd.func7, Tryd.ntmps7
    go_wp2_with fail
    refine CI.out.mono ?_
    rintro e1 w1 ⟨rfl, k1⟩
    go_wp2_with fail
    go_ret2
    exact ⟨rfl, K0.trans k1⟩
  · rw [hok] at CI
    have hb := seaB_bd hok
    have hln := sealTx_len hok
    have HQ := Lib.hid (show stV true (sealTx ⟨t, s, x⟩) = txt ([115, 101, 97, 108] ++ numsT [t, s, x]) from rfl)
    have hI : ∀ z ∈ [t, s, x], isI64 z := by
      intro z hz
      simp only [List.mem_cons, List.not_mem_nil, or_false] at hz
      unfold isI64
      simp only at hb
      rcases hz with rfl | rfl | rfl <;> omega
    have CN := Lib.hid (fun (w1 : World) (m : Nat) (hm : w1.heap.size = m) (hp : PwAt w1) => namedNumbers_any ⟨#[115, 101, 97, 108]⟩ (.slice (some ⟨m, 0, none⟩) 3 3) [t, s, x] (w1.alloc (.cells #[.int .i64 t, .int .i64 s, .int .i64 x] 3)) (by rw [← hm]; exact rd3 w1 t s x 3) (by simp)
      (fun z hz w2 k2 => itoaW_any z w2 (hI z hz) ((hp.keep ((Kp.refl w1).alloc _)).keep k2)) (Nat.le_trans hln (by decide)))
    clear hok hb hln hI
    rw [show (ByteArray.mk #[115, 101, 97, 108]).data.toList = [115, 101, 97, 108] from rfl] at CN
    rw [HQ.out]
    generalize txt ([115, 101, 97, 108] ++ numsT [t, s, x]) = X at *
    clear HQ
    go_enter Tryd.func7, Tryd.ntmps7
    go_wp2_with fail
    refine CI.out.mono ?_
    rintro e1 w1 ⟨rfl, k1⟩
    obtain ⟨q0, q1, q2⟩ := R0.keep k1
    simp only [Nat.zero_add] at q0 q1 q2
    have hp1 := hp.keep (K0.trans k1)
    go_wp2_with fail
    refine (CN.out w1 _ rfl hp1).mono ?_
    rintro e2 w2 ⟨rfl, k2⟩
    go_wp2_with fail
    go_ret2
    exact ⟨rfl, ((K0.trans k1).alloc _).trans k2⟩

set_option maxRecDepth 100000 in
set_option maxHeartbeats 4000000 in
theorem eText_any (t s x : Int) (w : World) (h : seaB ⟨t, s, x⟩ = true) :
    Calls Tryd.prog 12 #[slx t s x] w fun e w' => e = .returned (.string (txt (sealTx ⟨t, s, x⟩))) ∧ Kp w w' := by
  obtain ⟨h1, h2, h3⟩ := seaB_bd h
  have HT := Lib.hid (sealTx_dec h)
  simp only at h1 h2 h3 HT
  obtain ⟨T, rfl⟩ : ∃ T : Nat, t = T := ⟨t.toNat, by omega⟩
  obtain ⟨S, rfl⟩ : ∃ S : Nat, s = S := ⟨s.toNat, by omega⟩
  obtain ⟨X, rfl⟩ : ∃ X : Nat, x = X := ⟨x.toNat, by omega⟩
  have C1 := Lib.hid (fun w => l1Num_any T w (by omega))
  have C2 := Lib.hid (fun w => l1Num_any S w (by omega))
  have C3 := Lib.hid (fun w => l1Num_any X w (by omega))
  have z1 : (decT T).size ≤ 19 := by rw [decT_txt, txt_size]; exact dec_short T (by omega)
  have z2 : (decT S).size ≤ 19 := by rw [decT_txt, txt_size]; exact dec_short S (by omega)
  have z3 : (decT X).size ≤ 19 := by rw [decT_txt, txt_size]; exact dec_short X (by omega)
  obtain ⟨q5, hq5⟩ : ∃ q, txt (sealTx ⟨(T : Int), S, X⟩) = q := ⟨_, rfl⟩
  rw [hq5]
  have HQ : Hid (ByteArray.mk #[115, 101, 97, 108, 32] ++ decT T ++ ByteArray.mk #[32] ++ decT S ++ ByteArray.mk #[32] ++ decT X = q5) := Lib.hid (by
    rw [← hq5, HT.out, decT_txt, decT_txt, decT_txt, show ByteArray.mk #[115, 101, 97, 108, 32] = txt [115, 101, 97, 108, 32] from rfl, show ByteArray.mk #[32] = txt [32] from rfl, txt_app, txt_app, txt_app, txt_app, txt_app]
    simp)
  generalize decT T = a at *
  generalize decT S = b at *
  generalize decT X = c at *
  have j1 : (ByteArray.mk #[115, 101, 97, 108, 32]).size = 5 := rfl
  have j2 : (ByteArray.mk #[32]).size = 1 := rfl
  obtain ⟨q1, hq1⟩ : ∃ q, ByteArray.mk #[115, 101, 97, 108, 32] ++ a = q := ⟨_, rfl⟩
  have n1 : q1.size ≤ 24 := by rw [← hq1, ByteArray.size_append, j1]; omega
  rw [hq1] at HQ
  obtain ⟨q2, hq2⟩ : ∃ q, q1 ++ ByteArray.mk #[32] = q := ⟨_, rfl⟩
  have n2 : q2.size ≤ 25 := by rw [← hq2, ByteArray.size_append, j2]; omega
  rw [hq2] at HQ
  obtain ⟨q3, hq3⟩ : ∃ q, q2 ++ b = q := ⟨_, rfl⟩
  have n3 : q3.size ≤ 44 := by rw [← hq3, ByteArray.size_append]; omega
  rw [hq3] at HQ
  obtain ⟨q4, hq4⟩ : ∃ q, q3 ++ ByteArray.mk #[32] = q := ⟨_, rfl⟩
  have n4 : q4.size ≤ 45 := by rw [← hq4, ByteArray.size_append, j2]; omega
  rw [hq4] at HQ
  have hq6 : q4 ++ c = q5 := HQ.out
  have y1 : ¬ 9223372036854775807 < 5 + a.size := by omega
  have y2 : ¬ 9223372036854775807 < q1.size + 1 := by omega
  have y3 : ¬ 9223372036854775807 < q2.size + b.size := by omega
  have y4 : ¬ 9223372036854775807 < q3.size + 1 := by omega
  have y5 : ¬ 9223372036854775807 < q4.size + c.size := by omega
  have S0 : (fun w' : World => w'.cell? ⟨w.heap.size, 0, none⟩ = some (.int .i64 (T : Int)) ∧ w'.cell? ⟨w.heap.size, 1, none⟩ = some (.int .i64 (S : Int)) ∧ w'.cell? ⟨w.heap.size, 2, none⟩ = some (.int .i64 (X : Int)) ∧ Kp w w') (w.alloc (.cells #[.int .i64 (T : Int), .int .i64 (S : Int), .int .i64 (X : Int)] 26)).drew := ⟨by simp [go_sem], by simp [go_sem], by simp [go_sem], ((Kp.refl w).alloc _).drew⟩
  clear HT HQ hq5 z1 z2 z3 n1 n2 n3 n4 j1 j2 h1 h2 h3 h
  go_enter Tryd.func12, Tryd.ntmps12
  go_upto_region 1 with fail
  refine wp_region_held_drew (S := (fun w' => w'.cell? ⟨w.heap.size, 0, none⟩ = some (.int .i64 (T : Int)) ∧ w'.cell? ⟨w.heap.size, 1, none⟩ = some (.int .i64 (S : Int)) ∧ w'.cell? ⟨w.heap.size, 2, none⟩ = some (.int .i64 (X : Int)) ∧ Kp w w')) (by kernel_rfl) ?_ (fun hHeld => ?_)
  · exact S0
  refine wpAnyH_take (i := 0) (oi := ⟨some 3, _, _, _, _, _⟩) (v := ?_) rfl (by kernel_rfl) (by kernel_rfl) (by kernel_rfl) (fun _ _ _ h => h) (Or.inl ⟨by rfl, ?_⟩) (by assumption) ?_
  rotate_left
  · intro w hSw; (try dsimp only at hSw); go_simp; (all_goals with_reducible rfl)
  simp only [Act.put, List.setIfInBounds_toArray, List.set_cons_zero, List.set_cons_succ]
  refine wpAnyH_take (i := 1) (oi := ⟨some 4, _, _, _, _, _⟩) (v := ?_) rfl (by kernel_rfl) (by kernel_rfl) (by kernel_rfl) (fun _ _ _ h => h) (Or.inl ⟨by rfl, ?_⟩) (by assumption) ?_
  rotate_left
  · intro w hSw; (try dsimp only at hSw); go_simp; (all_goals with_reducible rfl)
  simp only [Act.put, List.setIfInBounds_toArray, List.set_cons_zero, List.set_cons_succ]
  refine wpAnyH_take (i := 5) (oi := ⟨some 8, _, _, _, _, _⟩) (v := ?_) rfl (by kernel_rfl) (by kernel_rfl) (by kernel_rfl) (fun _ _ _ h => h) (Or.inl ⟨by rfl, ?_⟩) (by assumption) ?_
  rotate_left
  · intro w hSw; (try dsimp only at hSw); go_simp; (all_goals with_reducible rfl)
  simp only [Act.put, List.setIfInBounds_toArray, List.set_cons_zero, List.set_cons_succ]
  refine wpAnyH_take (i := 6) (oi := ⟨some 9, _, _, _, _, _⟩) (v := ?_) rfl (by kernel_rfl) (by kernel_rfl) (by kernel_rfl) (fun _ _ _ h => h) (Or.inl ⟨by rfl, ?_⟩) (by assumption) ?_
  rotate_left
  · intro w hSw; (try dsimp only at hSw); go_simp; (all_goals with_reducible rfl)
  simp only [Act.put, List.setIfInBounds_toArray, List.set_cons_zero, List.set_cons_succ]
  refine wpAnyH_take (i := 10) (oi := ⟨some 13, _, _, _, _, _⟩) (v := ?_) rfl (by kernel_rfl) (by kernel_rfl) (by kernel_rfl) (fun _ _ _ h => h) (Or.inl ⟨by rfl, ?_⟩) (by assumption) ?_
  rotate_left
  · intro w hSw; (try dsimp only at hSw); go_simp; (all_goals with_reducible rfl)
  simp only [Act.put, List.setIfInBounds_toArray, List.set_cons_zero, List.set_cons_succ]
  refine wpAnyH_take (i := 11) (oi := ⟨some 14, _, _, _, _, _⟩) (v := ?_) rfl (by kernel_rfl) (by kernel_rfl) (by kernel_rfl) (fun _ _ _ h => h) (Or.inl ⟨by rfl, ?_⟩) (by assumption) ?_
  rotate_left
  · intro w hSw; (try dsimp only at hSw); go_simp; (all_goals with_reducible rfl)
  simp only [Act.put, List.setIfInBounds_toArray, List.set_cons_zero, List.set_cons_succ]
  refine wpAnyH_ready (rs := [2]) (by kernel_rfl) (by simp) ?_
  refine AllReadyH.cons (o := ⟨some 5, _, _, _, _, _⟩) rfl (fun K hK => ?_) AllReadyH.nil
  go_simp
  refine (C1.out _).mono ?_; rintro e1 wA1 ⟨rfl, k1⟩; have s1 := keep4k k1 hHeld
  go_wp2_with fail
  refine hK.out _ _ ?_ (fun hHeld => ?_)
  · (try dsimp only); (first | assumption | exact s1)
  clear hK K
  try simp only [Act.put, List.setIfInBounds_toArray, List.set_cons_zero, List.set_cons_succ]
  refine wpAnyH_take (i := 3) (oi := ⟨some 6, _, _, _, _, _⟩) (v := ?_) rfl (by kernel_rfl) (by kernel_rfl) (by kernel_rfl) (fun _ _ _ h => h) (Or.inl ⟨by rfl, ?_⟩) (by assumption) ?_
  rotate_left
  · intro w hSw; (try dsimp only at hSw); go_simp; (all_goals with_reducible rfl)
  simp only [Act.put, List.setIfInBounds_toArray, List.set_cons_zero, List.set_cons_succ]
  refine wpAnyH_take (i := 4) (oi := ⟨some 7, _, _, _, _, _⟩) (v := ?_) rfl (by kernel_rfl) (by kernel_rfl) (by kernel_rfl) (fun _ _ _ h => h) (Or.inl ⟨by rfl, ?_⟩) (by assumption) ?_
  rotate_left
  · intro w hSw; (try dsimp only at hSw); go_simp; (all_goals with_reducible rfl)
  simp only [Act.put, List.setIfInBounds_toArray, List.set_cons_zero, List.set_cons_succ]
  refine wpAnyH_ready (rs := [7]) (by kernel_rfl) (by simp) ?_
  refine AllReadyH.cons (o := ⟨some 10, _, _, _, _, _⟩) rfl (fun K hK => ?_) AllReadyH.nil
  go_simp
  refine (C2.out _).mono ?_; rintro e2 wA2 ⟨rfl, k2⟩; have s1 := keep4k k2 hHeld
  go_wp2_with fail
  refine hK.out _ _ ?_ (fun hHeld => ?_)
  · (try dsimp only); (first | assumption | exact s1)
  clear hK K
  try simp only [Act.put, List.setIfInBounds_toArray, List.set_cons_zero, List.set_cons_succ]
  refine wpAnyH_take (i := 8) (oi := ⟨some 11, _, _, _, _, _⟩) (v := ?_) rfl (by kernel_rfl) (by kernel_rfl) (by kernel_rfl) (fun _ _ _ h => h) (Or.inl ⟨by rfl, ?_⟩) (by assumption) ?_
  rotate_left
  · intro w hSw; (try dsimp only at hSw); go_simp; (all_goals with_reducible rfl)
  simp only [Act.put, List.setIfInBounds_toArray, List.set_cons_zero, List.set_cons_succ]
  refine wpAnyH_take (i := 9) (oi := ⟨some 12, _, _, _, _, _⟩) (v := ?_) rfl (by kernel_rfl) (by kernel_rfl) (by kernel_rfl) (fun _ _ _ h => h) (Or.inl ⟨by rfl, ?_⟩) (by assumption) ?_
  rotate_left
  · intro w hSw; (try dsimp only at hSw); go_simp; (all_goals with_reducible rfl)
  simp only [Act.put, List.setIfInBounds_toArray, List.set_cons_zero, List.set_cons_succ]
  refine wpAnyH_ready (rs := [12]) (by kernel_rfl) (by simp) ?_
  refine AllReadyH.cons (o := ⟨some 15, _, _, _, _, _⟩) rfl (fun K hK => ?_) AllReadyH.nil
  go_simp
  refine (C3.out _).mono ?_; rintro e3 wA3 ⟨rfl, k3⟩; have s1 := keep4k k3 hHeld
  go_wp2_with fail
  refine hK.out _ _ ?_ (fun hHeld => ?_)
  · (try dsimp only); (first | assumption | exact s1)
  clear hK K
  try simp only [Act.put, List.setIfInBounds_toArray, List.set_cons_zero, List.set_cons_succ]
  refine wpAnyH_take (i := 13) (oi := ⟨some 16, _, _, _, _, _⟩) (v := ?_) rfl (by kernel_rfl) (by kernel_rfl) (by kernel_rfl) (fun _ _ _ h => h) (Or.inl ⟨by rfl, ?_⟩) (by assumption) ?_
  rotate_left
  · intro w hSw; (try dsimp only at hSw); go_simp; (all_goals with_reducible rfl)
  simp only [Act.put, List.setIfInBounds_toArray, List.set_cons_zero, List.set_cons_succ]
  refine wpAnyH_take (i := 14) (oi := ⟨some 2, _, _, _, _, _⟩) (v := ?_) rfl (by kernel_rfl) (by kernel_rfl) (by kernel_rfl) (fun _ _ _ h => h) (Or.inl ⟨by rfl, ?_⟩) (by assumption) ?_
  rotate_left
  · intro w hSw; (try dsimp only at hSw); go_simp; (all_goals with_reducible rfl)
  simp only [Act.put, List.setIfInBounds_toArray, List.set_cons_zero, List.set_cons_succ]
  refine wpAnyH_done (by kernel_rfl) ?_ _
  go_wp2_with fail
  go_ret
  exact ⟨rfl, hHeld.2.2.2⟩

set_option maxRecDepth 100000 in
set_option maxHeartbeats 4000000 in
theorem sealedTextS_any (t s x : Int) (w : World) :
    Calls Tryd.prog 5 #[slx t s x] w fun e w' => e = .returned (.tuple #[.string (stV (seaB ⟨t, s, x⟩) (sealTx ⟨t, s, x⟩)), .bool (seaB ⟨t, s, x⟩)]) ∧ Kp w w' := by
  have K0 : Kp w (w.alloc (.cells #[.int .i64 t, .int .i64 s, .int .i64 x] 26)) := (Kp.refl w).alloc _
  have R0 : SeaAt (w.alloc (.cells #[.int .i64 t, .int .i64 s, .int .i64 x] 26)) w.heap.size 0 ⟨t, s, x⟩ := ⟨by simp [go_sem], by simp [go_sem], by simp [go_sem]⟩
  have CI := Lib.hid (eGood_any t s x (w.alloc (.cells #[.int .i64 t, .int .i64 s, .int .i64 x] 26)))
  cases hok : seaB ⟨t, s, x⟩
  · rw [hok] at CI
    clear hok
    go_enter Tryd.func5, Tryd.ntmps5
    go_wp2_with fail
    refine CI.out.mono ?_
    rintro e1 w1 ⟨rfl, k1⟩
    go_wp2_with fail
    go_ret2
    exact ⟨rfl, K0.trans k1⟩
  · rw [hok] at CI
    have CT := Lib.hid (fun w => eText_any t s x w hok)
    have HQ := Lib.hid (show stV true (sealTx ⟨t, s, x⟩) = txt (sealTx ⟨t, s, x⟩) from rfl)
    rw [HQ.out]
    generalize txt (sealTx ⟨t, s, x⟩) = X at *
    clear hok HQ
    go_enter Tryd.func5, Tryd.ntmps5
    go_wp2_with fail
    refine CI.out.mono ?_
    rintro e1 w1 ⟨rfl, k1⟩
    obtain ⟨q0, q1, q2⟩ := R0.keep k1
    simp only [Nat.zero_add] at q0 q1 q2
    go_wp2_with fail
    refine (CT.out _).mono ?_
    rintro e2 w2 ⟨rfl, k2⟩
    go_wp2_with fail
    go_ret2
    exact ⟨rfl, (K0.trans k1).trans k2⟩


end Go.Proofs.YtpenimbmonenpaaDoor
