/-
  The text of a map, as the reference writes it.
-/
import Derived.Test.YtpdcmpojjchobaaDoorMpM
import Derived.Test.YtpdcmpojjchobaaDoorGood
import Derived.Test.YtpdcmpojjchobaaDoorBuc
namespace Go.Proofs.YtpdcmpojjchobaaDoor
open Go.RowKit

set_option maxRecDepth 100000 in
set_option maxHeartbeats 4000000 in
theorem mList_any (word : ByteArray) (v : Value) (l : List Int) (w : World) (hr : RdI w v l) (hl : l.length ≤ 1048576) (hb : ∀ x ∈ l, 0 ≤ x ∧ x < 1000) (hw : word.size ≤ 100) :
    Calls Tryd.prog 93 #[.string word, v] w fun e w' => e = .returned (.string (txt (word.data.toList ++ numsT l ++ [10]))) ∧ Kp w w' := by
  obtain ⟨A, c, rfl, hA⟩ := hr
  obtain ⟨n, hn⟩ : ∃ n, l.length = n := ⟨_, rfl⟩
  rw [hn] at hA hl ⊢
  have HN := Lib.hid hn
  have HA := Lib.hid hA
  have HB := Lib.hid hb
  have HL := Lib.hid (fun (q : Nat) => numsT_len (l.take q) (fun x hx => hb x (List.mem_of_mem_take hx)))
  have Z0 : Hid (word = txt (word.data.toList ++ numsT (l.take 0))) := Lib.hid (by simp [numsT, txt_of])
  obtain ⟨wl, hwl⟩ : ∃ wl, word.data.toList = wl := ⟨_, rfl⟩
  have hwz : wl.length ≤ 100 := by rw [← hwl]; exact hw
  rw [hwl] at Z0 ⊢
  clear hn hA hb hwl
  go_enter Tryd.func93, Tryd.ntmps93
  go_wp2_with fail
  go_loopw [0, 6, 9] (fun s _ i wr => ∃ (q : Nat) (z : ByteArray), q ≤ n ∧ i = .int .i64 q ∧ s = .string z ∧ Hid (z = txt (wl ++ numsT (l.take q))) ∧ Kp w wr) (fun _ _ i _ => n - (intOf i).toNat)
  case atStart => exact ⟨0, _, by omega, rfl, rfl, Z0, Kp.refl _⟩
  case round =>
    clear Z0
    obtain ⟨q, z, hq, rfl, rfl, HZ, kr⟩ := hrel
    have hz : z.size ≤ 100 + 4 * 1048576 := by
      have h1 := congrArg ByteArray.size HZ.out
      have h2 := HL.out q
      rw [txt_size, List.length_append] at h1
      rw [List.length_take] at h2
      omega
    by_cases hlt : q < n
    · have hlt' : (q : Int) < n := by omega
      obtain ⟨x, hx⟩ : ∃ x, l[q]? = some x := ⟨l[q]'(by have := HN.out; omega), List.getElem?_eq_getElem _⟩
      obtain ⟨g, off, rfl, hc⟩ := HA.out (by have := HN.out; omega)
      have a0 := kr.cell (hc q x hx)
      have hx1 := HB.out x (List.mem_of_getElem? hx)
      have HM := Lib.hid (numsT_more hx)
      obtain ⟨k, rfl⟩ : ∃ k : Nat, x = k := ⟨x.toNat, by omega⟩
      have CX := Lib.hid (fun w => l1Num_any k w (by omega))
      obtain ⟨sx, hsx⟩ : ∃ y, decT k = y := ⟨_, rfl⟩
      have zsx : sx.size ≤ 3 := by rw [← hsx, decT_txt, txt_size]; exact digits_len3 (by omega)
      rw [hsx] at CX
      obtain ⟨p1, hp1⟩ : ∃ y, ByteArray.mk #[32] ++ sx = y := ⟨_, rfl⟩
      have zp1 : p1.size ≤ 4 := by rw [← hp1, ByteArray.size_append]; have : (ByteArray.mk #[32]).size = 1 := rfl; omega
      have y1 : ¬ 9223372036854775807 < 1 + sx.size := by omega
      have y2 : ¬ 9223372036854775807 < z.size + p1.size := by omega
      have HN2 : Hid (z ++ p1 = txt (wl ++ numsT (l.take (q + 1)))) := Lib.hid (by
        rw [HM.out, HZ.out, ← hp1, ← hsx, decT_txt, itoa_pos (by omega), Int.toNat_natCast, show ByteArray.mk #[32] = txt [32] from rfl, txt_app, txt_app]
        simp)
      clear hx hc hx1 hsx HZ
      go_wp2_with fail
      refine (CX.out _).mono ?_
      rintro e1 w1 ⟨rfl, k1⟩
      have kr1 := kr.trans k1
      clear k1 kr
      go_wp2_with fail
      go_roundw
      case rel => exact ⟨q + 1, _, by omega, by go_num, rfl, HN2, kr1⟩
      case measure => simp [intOf]; omega
    · obtain rfl : q = n := by omega
      have HE : Hid (z ++ ByteArray.mk #[10] = txt (wl ++ numsT l ++ [10])) := Lib.hid (by
        have h1 := HZ.out
        rw [List.take_of_length_le (by rw [HN.out]; omega)] at h1
        rw [h1, show ByteArray.mk #[10] = txt [10] from rfl, txt_app])
      have y1 : ¬ 9223372036854775807 < z.size + 1 := by omega
      clear HZ
      go_wp2_with fail
      go_ret
      exact ⟨ret_str HE.out, kr⟩

set_option maxRecDepth 100000 in
set_option maxHeartbeats 16000000 in
theorem mText_any (n h : Nat) (At Ar Ad : Option Addr) (nt ct nr cr nd cd : Nat) (lt lr ld : List Int) (w : World) (ht : RdI w (.slice At nt ct) lt) (hr : RdI w (.slice Ar nr cr) lr) (hd : RdI w (.slice Ad nd cd) ld)
    (h1 : 1 ≤ n ∧ n ≤ 10) (h2 : 1 ≤ h ∧ h ≤ 10) (htb : ∀ x ∈ lt, 0 ≤ x ∧ x < 100) (hrb : ∀ x ∈ lr, 0 ≤ x ∧ x < 1000) (hdb : ∀ x ∈ ld, 0 ≤ x ∧ x < 1000) (l1 : lt.length ≤ 1048576) (l2 : lr.length ≤ 1048576) (l3 : ld.length ≤ 1048576) :
    Calls Tryd.prog 48 #[mp n h (.slice At nt ct) (.slice Ar nr cr) (.slice Ad nd cd)] w fun e w' => e = .returned (.string (txt (mapTx n h lt lr ld))) ∧ Kp w w' := by
  have e1 : lt.length = nt := by obtain ⟨A, c, e, _⟩ := ht; injection e with _ e2 _; exact e2.symm
  obtain ⟨A', c', e', hAt⟩ := ht
  injection e' with e3 e4 e5
  subst e3
  have HAt := Lib.hid hAt
  have CA := Lib.hid (fun w => l1Num_any n w (by omega))
  have CB := Lib.hid (fun w => l1Num_any h w (by omega))
  obtain ⟨sa, hsa⟩ : ∃ y, decT n = y := ⟨_, rfl⟩
  obtain ⟨sb, hsb⟩ : ∃ y, decT h = y := ⟨_, rfl⟩
  have zsa : sa.size ≤ 2 := by rw [← hsa, decT_txt, txt_size]; exact dec_len (by omega)
  have zsb : sb.size ≤ 2 := by rw [← hsb, decT_txt, txt_size]; exact dec_len (by omega)
  rw [hsa] at CA
  rw [hsb] at CB
  obtain ⟨q1, hq1⟩ : ∃ y, ByteArray.mk #[109, 97, 112, 32] ++ sa = y := ⟨_, rfl⟩
  have zq1 : q1.size ≤ 6 := by rw [← hq1, ByteArray.size_append]; have : (ByteArray.mk #[109, 97, 112, 32]).size = 4 := rfl; omega
  obtain ⟨q2, hq2⟩ : ∃ y, q1 ++ ByteArray.mk #[32] = y := ⟨_, rfl⟩
  have zq2 : q2.size ≤ 7 := by rw [← hq2, ByteArray.size_append]; have : (ByteArray.mk #[32]).size = 1 := rfl; omega
  obtain ⟨q3, hq3⟩ : ∃ y, q2 ++ sb = y := ⟨_, rfl⟩
  have zq3 : q3.size ≤ 9 := by rw [← hq3, ByteArray.size_append]; omega
  obtain ⟨q4, hq4⟩ : ∃ y, q3 ++ ByteArray.mk #[10] = y := ⟨_, rfl⟩
  have zq4 : q4.size ≤ 10 := by rw [← hq4, ByteArray.size_append]; have : (ByteArray.mk #[10]).size = 1 := rfl; omega
  have y1 : ¬ 9223372036854775807 < 4 + sa.size := by omega
  have y2 : ¬ 9223372036854775807 < q1.size + 1 := by omega
  have y3 : ¬ 9223372036854775807 < q2.size + sb.size := by omega
  have y4 : ¬ 9223372036854775807 < q3.size + 1 := by omega
  obtain ⟨HD, hHD⟩ : ∃ y, y = [109, 97, 112, 32] ++ Lib.decDigits n ++ [32] ++ Lib.decDigits h ++ [10] := ⟨_, rfl⟩
  have HQ4 : Hid (q4 = txt (HD ++ gT n lt 0)) := Lib.hid (by
    rw [← hq4, ← hq3, ← hq2, ← hq1, ← hsa, ← hsb, decT_txt, decT_txt, hHD, show ByteArray.mk #[109, 97, 112, 32] = txt [109, 97, 112, 32] from rfl, show ByteArray.mk #[32] = txt [32] from rfl, show ByteArray.mk #[10] = txt [10] from rfl, txt_app, txt_app, txt_app, txt_app]
    simp [gT])
  have HDL : Hid (HD.length ≤ 10) := Lib.hid (by have := congrArg ByteArray.size HQ4.out; rw [txt_size] at this; simp only [gT, List.append_nil] at this; omega)
  have HR : Hid (mapTx n h lt lr ld = HD ++ gT n lt nt ++ ([114, 105, 118, 101, 114, 115] ++ numsT lr ++ [10]) ++ ([114, 111, 97, 100, 115] ++ numsT ld ++ [10])) := Lib.hid (by rw [hHD, ← e1]; unfold mapTx; simp only [Int.toNat_natCast])
  have HRR := Lib.hid hr
  have HRD := Lib.hid hd
  have HTB := Lib.hid htb
  have HGL := Lib.hid (gT_len n lt htb)
  have HE1 := Lib.hid e1
  have ntb : nt ≤ 1048576 := by omega
  have CR := Lib.hid (fun w hr => mList_any (ByteArray.mk #[114, 105, 118, 101, 114, 115]) (.slice Ar nr cr) lr w hr l2 hrb (by decide))
  have CD := Lib.hid (fun w hr => mList_any (ByteArray.mk #[114, 111, 97, 100, 115]) (.slice Ad nd cd) ld w hr l3 hdb (by decide))
  have HNR : Hid ((numsT lr).length ≤ 4 * 1048576) := Lib.hid (by have := numsT_len lr hrb; omega)
  have HND : Hid ((numsT ld).length ≤ 4 * 1048576) := Lib.hid (by have := numsT_len ld hdb; omega)
  have hn1 := h1.1
  have hn2 := h1.2
  have s1 : (w.alloc (.cells #[.int .i64 (n : Int), .int .i64 (h : Int), .slice At nt ct, .slice Ar nr cr, .slice Ad nd cd] 43)).drew.cell? ⟨w.heap.size, 0, none⟩ = some (.int .i64 (n : Int)) ∧ (w.alloc (.cells #[.int .i64 (n : Int), .int .i64 (h : Int), .slice At nt ct, .slice Ar nr cr, .slice Ad nd cd] 43)).drew.cell? ⟨w.heap.size, 1, none⟩ = some (.int .i64 (h : Int)) ∧ (w.alloc (.cells #[.int .i64 (n : Int), .int .i64 (h : Int), .slice At nt ct, .slice Ar nr cr, .slice Ad nd cd] 43)).drew.cell? ⟨w.heap.size, 2, none⟩ = some (.slice At nt ct) ∧ (w.alloc (.cells #[.int .i64 (n : Int), .int .i64 (h : Int), .slice At nt ct, .slice Ar nr cr, .slice Ad nd cd] 43)).drew.cell? ⟨w.heap.size, 3, none⟩ = some (.slice Ar nr cr) ∧ (w.alloc (.cells #[.int .i64 (n : Int), .int .i64 (h : Int), .slice At nt ct, .slice Ar nr cr, .slice Ad nd cd] 43)).drew.cell? ⟨w.heap.size, 4, none⟩ = some (.slice Ad nd cd) ∧ Kp w (w.alloc (.cells #[.int .i64 (n : Int), .int .i64 (h : Int), .slice At nt ct, .slice Ar nr cr, .slice Ad nd cd] 43)).drew := ⟨by simp [go_sem], by simp [go_sem], by simp [go_sem], by simp [go_sem], by simp [go_sem], ((Kp.refl w).alloc _).drew⟩
  clear hsa hsb hHD hr hd htb e1 hAt l1 l2 l3 hrb hdb h1 h2 e4 e5
  go_enter Tryd.func48, Tryd.ntmps48
  go_wp2_with fail
  refine wp_region_held_drew (S := (fun w' => w'.cell? ⟨w.heap.size, 0, none⟩ = some (.int .i64 (n : Int)) ∧ w'.cell? ⟨w.heap.size, 1, none⟩ = some (.int .i64 (h : Int)) ∧ w'.cell? ⟨w.heap.size, 2, none⟩ = some (.slice At nt ct) ∧ w'.cell? ⟨w.heap.size, 3, none⟩ = some (.slice Ar nr cr) ∧ w'.cell? ⟨w.heap.size, 4, none⟩ = some (.slice Ad nd cd) ∧ Kp w w')) (by kernel_rfl) ?_ (fun hHeld => ?_)
  · exact s1
  refine wpAnyH_take (i := 0) (oi := ⟨some 6, _, _, _, _, _⟩) (v := ?_) rfl (by kernel_rfl) (by kernel_rfl) (by kernel_rfl) (fun _ _ _ h => h) (Or.inl ⟨by rfl, ?_⟩) (by assumption) ?_
  rotate_left
  · intro w hSw; (try dsimp only at hSw); go_simp; (all_goals with_reducible rfl)
  simp only [Act.put, List.setIfInBounds_toArray, List.set_cons_zero, List.set_cons_succ]
  refine wpAnyH_take (i := 1) (oi := ⟨some 7, _, _, _, _, _⟩) (v := ?_) rfl (by kernel_rfl) (by kernel_rfl) (by kernel_rfl) (fun _ _ _ h => h) (Or.inl ⟨by rfl, ?_⟩) (by assumption) ?_
  rotate_left
  · intro w hSw; (try dsimp only at hSw); go_simp; (all_goals with_reducible rfl)
  simp only [Act.put, List.setIfInBounds_toArray, List.set_cons_zero, List.set_cons_succ]
  refine wpAnyH_take (i := 5) (oi := ⟨some 11, _, _, _, _, _⟩) (v := ?_) rfl (by kernel_rfl) (by kernel_rfl) (by kernel_rfl) (fun _ _ _ h => h) (Or.inl ⟨by rfl, ?_⟩) (by assumption) ?_
  rotate_left
  · intro w hSw; (try dsimp only at hSw); go_simp; (all_goals with_reducible rfl)
  simp only [Act.put, List.setIfInBounds_toArray, List.set_cons_zero, List.set_cons_succ]
  refine wpAnyH_take (i := 6) (oi := ⟨some 12, _, _, _, _, _⟩) (v := ?_) rfl (by kernel_rfl) (by kernel_rfl) (by kernel_rfl) (fun _ _ _ h => h) (Or.inl ⟨by rfl, ?_⟩) (by assumption) ?_
  rotate_left
  · intro w hSw; (try dsimp only at hSw); go_simp; (all_goals with_reducible rfl)
  simp only [Act.put, List.setIfInBounds_toArray, List.set_cons_zero, List.set_cons_succ]
  refine wpAnyH_ready (rs := [2]) (by kernel_rfl) (by simp) ?_
  refine AllReadyH.cons (o := ⟨some 8, _, _, _, _, _⟩) rfl (fun K hK => ?_) AllReadyH.nil
  go_simp
  refine (CA.out _).mono ?_; rintro e1 w1 ⟨rfl, k1⟩; have s2 : w1.cell? ⟨w.heap.size, 0, none⟩ = some (.int .i64 (n : Int)) ∧ w1.cell? ⟨w.heap.size, 1, none⟩ = some (.int .i64 (h : Int)) ∧ w1.cell? ⟨w.heap.size, 2, none⟩ = some (.slice At nt ct) ∧ w1.cell? ⟨w.heap.size, 3, none⟩ = some (.slice Ar nr cr) ∧ w1.cell? ⟨w.heap.size, 4, none⟩ = some (.slice Ad nd cd) ∧ Kp w w1 := ⟨k1.cell s1.1, k1.cell s1.2.1, k1.cell s1.2.2.1, k1.cell s1.2.2.2.1, k1.cell s1.2.2.2.2.1, s1.2.2.2.2.2.trans k1⟩; clear k1
  go_wp2_with fail
  refine hK.out _ _ ?_ (fun hHeld => ?_)
  · (try dsimp only); (first | assumption | exact s3 | exact s2 | exact s1)
  clear hK K
  try simp only [Act.put, List.setIfInBounds_toArray, List.set_cons_zero, List.set_cons_succ]
  refine wpAnyH_take (i := 3) (oi := ⟨some 9, _, _, _, _, _⟩) (v := ?_) rfl (by kernel_rfl) (by kernel_rfl) (by kernel_rfl) (fun _ _ _ h => h) (Or.inl ⟨by rfl, ?_⟩) (by assumption) ?_
  rotate_left
  · intro w hSw; (try dsimp only at hSw); go_simp; (all_goals with_reducible rfl)
  simp only [Act.put, List.setIfInBounds_toArray, List.set_cons_zero, List.set_cons_succ]
  refine wpAnyH_take (i := 4) (oi := ⟨some 10, _, _, _, _, _⟩) (v := ?_) rfl (by kernel_rfl) (by kernel_rfl) (by kernel_rfl) (fun _ _ _ h => h) (Or.inl ⟨by rfl, ?_⟩) (by assumption) ?_
  rotate_left
  · intro w hSw; (try dsimp only at hSw); go_simp; (all_goals with_reducible rfl)
  simp only [Act.put, List.setIfInBounds_toArray, List.set_cons_zero, List.set_cons_succ]
  refine wpAnyH_ready (rs := [7]) (by kernel_rfl) (by simp) ?_
  refine AllReadyH.cons (o := ⟨some 13, _, _, _, _, _⟩) rfl (fun K hK => ?_) AllReadyH.nil
  go_simp
  refine (CB.out _).mono ?_; rintro e2 w2 ⟨rfl, k2⟩; have s3 : w2.cell? ⟨w.heap.size, 0, none⟩ = some (.int .i64 (n : Int)) ∧ w2.cell? ⟨w.heap.size, 1, none⟩ = some (.int .i64 (h : Int)) ∧ w2.cell? ⟨w.heap.size, 2, none⟩ = some (.slice At nt ct) ∧ w2.cell? ⟨w.heap.size, 3, none⟩ = some (.slice Ar nr cr) ∧ w2.cell? ⟨w.heap.size, 4, none⟩ = some (.slice Ad nd cd) ∧ Kp w w2 := ⟨k2.cell s2.1, k2.cell s2.2.1, k2.cell s2.2.2.1, k2.cell s2.2.2.2.1, k2.cell s2.2.2.2.2.1, s2.2.2.2.2.2.trans k2⟩; clear k2
  go_wp2_with fail
  refine hK.out _ _ ?_ (fun hHeld => ?_)
  · (try dsimp only); (first | assumption | exact s3 | exact s2 | exact s1)
  clear hK K
  try simp only [Act.put, List.setIfInBounds_toArray, List.set_cons_zero, List.set_cons_succ]
  refine wpAnyH_take (i := 8) (oi := ⟨some 14, _, _, _, _, _⟩) (v := ?_) rfl (by kernel_rfl) (by kernel_rfl) (by kernel_rfl) (fun _ _ _ h => h) (Or.inl ⟨by rfl, ?_⟩) (by assumption) ?_
  rotate_left
  · intro w hSw; (try dsimp only at hSw); go_simp; (all_goals with_reducible rfl)
  simp only [Act.put, List.setIfInBounds_toArray, List.set_cons_zero, List.set_cons_succ]
  refine wpAnyH_take (i := 9) (oi := ⟨some 15, _, _, _, _, _⟩) (v := ?_) rfl (by kernel_rfl) (by kernel_rfl) (by kernel_rfl) (fun _ _ _ h => h) (Or.inl ⟨by rfl, ?_⟩) (by assumption) ?_
  rotate_left
  · intro w hSw; (try dsimp only at hSw); go_simp; (all_goals with_reducible rfl)
  simp only [Act.put, List.setIfInBounds_toArray, List.set_cons_zero, List.set_cons_succ]
  refine wpAnyH_take (i := 10) (oi := ⟨some 3, _, _, _, _, _⟩) (v := ?_) rfl (by kernel_rfl) (by kernel_rfl) (by kernel_rfl) (fun _ _ _ h => h) (Or.inl ⟨by rfl, ?_⟩) (by assumption) ?_
  rotate_left
  · intro w hSw; (try dsimp only at hSw); go_simp; (all_goals with_reducible rfl)
  simp only [Act.put, List.setIfInBounds_toArray, List.set_cons_zero, List.set_cons_succ]
  refine wpAnyH_done (by kernel_rfl) ?_ _
  obtain ⟨c0, c1, c2, c3, c4, K3⟩ := s3
  clear y1 y2 y3 y4 s1 s2
  go_wp2_with fail
  go_loopw [3, 4, 5, 19] (fun s _ _ i wr => ∃ (q : Nat) (z : ByteArray), q ≤ nt ∧ i = .int .i64 q ∧ s = .string z ∧ Hid (z = txt (HD ++ gT n lt q)) ∧ wr.cell? ⟨w.heap.size, 0, none⟩ = some (.int .i64 (n : Int)) ∧ wr.cell? ⟨w.heap.size, 1, none⟩ = some (.int .i64 (h : Int)) ∧ wr.cell? ⟨w.heap.size, 2, none⟩ = some (.slice At nt ct) ∧ wr.cell? ⟨w.heap.size, 3, none⟩ = some (.slice Ar nr cr) ∧ wr.cell? ⟨w.heap.size, 4, none⟩ = some (.slice Ad nd cd) ∧ Kp w wr) (fun _ _ _ i _ => nt - (intOf i).toNat)
  case atStart => exact ⟨0, _, by omega, rfl, rfl, HQ4, c0, c1, c2, c3, c4, K3⟩
  case round =>
    clear HQ4 c0 c1 c2 c3 c4 K3
    obtain ⟨q, z, hq, rfl, rfl, HZ, c0, c1, c2, c3, c4, kr⟩ := hrel
    have hz : z.size ≤ 10 + 3 * 1048576 := by
      have h1 := congrArg ByteArray.size HZ.out
      have h2 := HGL.out q
      have h3 := HDL.out
      rw [txt_size, List.length_append] at h1
      omega
    by_cases hlt : q < nt
    · have hlt' : (q : Int) < nt := by omega
      obtain ⟨x, hx⟩ : ∃ x, lt[q]? = some x := ⟨lt[q]'(by have := HE1.out; omega), List.getElem?_eq_getElem _⟩
      obtain ⟨g, off, rfl, hc⟩ := HAt.out (by have := HE1.out; omega)
      have a0 := kr.cell (hc q x hx)
      have hx1 := HTB.out x (List.mem_of_getElem? hx)
      have HM := Lib.hid (gT_more (n := n) hx)
      obtain ⟨k, rfl⟩ : ∃ k : Nat, x = k := ⟨x.toNat, by omega⟩
      have CX := Lib.hid (fun w => l1Num_any k w (by omega))
      obtain ⟨sx, hsx⟩ : ∃ y, decT k = y := ⟨_, rfl⟩
      have zsx : sx.size ≤ 2 := by rw [← hsx, decT_txt, txt_size]; exact dec_len (by omega)
      rw [hsx] at CX
      obtain ⟨z2, hz2⟩ : ∃ y, z ++ sx = y := ⟨_, rfl⟩
      have zz2 : z2.size ≤ 12 + 3 * 1048576 := by rw [← hz2, ByteArray.size_append]; omega
      have y1 : ¬ 9223372036854775807 < z.size + sx.size := by omega
      have y2 : ¬ 9223372036854775807 < z2.size + 1 := by omega
      have HN2 : Hid (z2 = txt (HD ++ (gT n lt q ++ Lib.decDigits k))) := Lib.hid (by
        rw [← hz2, HZ.out, ← hsx, decT_txt, txt_app]
        simp)
      have m1 : (q : Int).tmod (n : Int) = ((q % n : Nat) : Int) := by rw [Int.tmod_eq_emod_of_nonneg (by omega)]; omega
      have m2 : ¬ (n : Int) = 0 := by omega
      have hql : q % n < n := Nat.mod_lt _ (by omega)
      have m3 : IntKind.i64.wrap (((q % n : Nat) : Int)) = ((q % n : Nat) : Int) := IntWalk.i64_in _ (by omega)
      have m4 : IntKind.i64.wrap ((n : Int) - 1) = (n : Int) - 1 := IntWalk.i64_in _ (by omega)
      clear hx hc hx1 hsx HZ
      by_cases hmod : q % n = n - 1
      · have m5 : (((q % n : Nat) : Int) == (n : Int) - 1) = true := by simp; omega
        have HN3 : Hid (z2 ++ ByteArray.mk #[10] = txt (HD ++ gT n lt (q + 1))) := Lib.hid (by
          rw [HM.out, HN2.out, if_pos hmod, Int.toNat_natCast, show ByteArray.mk #[10] = txt [10] from rfl, txt_app]
          simp)
        generalize q % n = r at *
        go_wp2_with fail
        refine (CX.out _).mono ?_
        rintro e1 w1 ⟨rfl, k1⟩
        have t0 := k1.cell c0
        have t1 := k1.cell c1
        have t2 := k1.cell c2
        have t3 := k1.cell c3
        have t4 := k1.cell c4
        have kr1 := kr.trans k1
        clear k1 kr c0 c1 c2 c3 c4
        go_wp2_with fail
        go_quiet (fail)
        go_wp2_with fail
        go_roundw
        case rel => exact ⟨q + 1, _, by omega, by go_num, rfl, HN3, by simpa [go_sem] using t0, by simpa [go_sem] using t1, by simpa [go_sem] using t2, by simpa [go_sem] using t3, by simpa [go_sem] using t4, kr1.drewN _⟩
        case measure => simp [intOf]; omega
      · have m5 : (((q % n : Nat) : Int) == (n : Int) - 1) = false := by simp; omega
        have HN3 : Hid (z2 = txt (HD ++ gT n lt (q + 1))) := Lib.hid (by
          rw [HM.out, HN2.out, if_neg hmod, Int.toNat_natCast]
          simp)
        generalize q % n = r at *
        go_wp2_with fail
        refine (CX.out _).mono ?_
        rintro e1 w1 ⟨rfl, k1⟩
        have t0 := k1.cell c0
        have t1 := k1.cell c1
        have t2 := k1.cell c2
        have t3 := k1.cell c3
        have t4 := k1.cell c4
        have kr1 := kr.trans k1
        clear k1 kr c0 c1 c2 c3 c4
        go_wp2_with fail
        go_quiet (fail)
        go_wp2_with fail
        go_roundw
        case rel => exact ⟨q + 1, _, by omega, by go_num, rfl, HN3, by simpa [go_sem] using t0, by simpa [go_sem] using t1, by simpa [go_sem] using t2, by simpa [go_sem] using t3, by simpa [go_sem] using t4, kr1.drewN _⟩
        case measure => simp [intOf]; omega
    · have HQN := Lib.hid (show q = nt by omega)
      have hge : ¬ (q : Int) < nt := by omega
      obtain ⟨sr, hsr⟩ : ∃ y, txt ((ByteArray.mk #[114, 105, 118, 101, 114, 115]).data.toList ++ numsT lr ++ [10]) = y := ⟨_, rfl⟩
      obtain ⟨sd, hsd⟩ : ∃ y, txt ((ByteArray.mk #[114, 111, 97, 100, 115]).data.toList ++ numsT ld ++ [10]) = y := ⟨_, rfl⟩
      have zsr : sr.size ≤ 7 + 4 * 1048576 := by rw [← hsr, txt_size, List.length_append, List.length_append]; have := HNR.out; have : (ByteArray.mk #[114, 105, 118, 101, 114, 115]).data.toList.length = 6 := rfl; simp only [List.length_cons, List.length_nil]; omega
      have zsd : sd.size ≤ 6 + 4 * 1048576 := by rw [← hsd, txt_size, List.length_append, List.length_append]; have := HND.out; have : (ByteArray.mk #[114, 111, 97, 100, 115]).data.toList.length = 5 := rfl; simp only [List.length_cons, List.length_nil]; omega
      rw [hsr] at CR
      rw [hsd] at CD
      obtain ⟨z3, hz3⟩ : ∃ y, z ++ sr = y := ⟨_, rfl⟩
      have zz3 : z3.size ≤ 17 + 7 * 1048576 := by rw [← hz3, ByteArray.size_append]; omega
      have y1 : ¬ 9223372036854775807 < z.size + sr.size := by omega
      have y2 : ¬ 9223372036854775807 < z3.size + sd.size := by omega
      have HE : Hid (z3 ++ sd = txt (mapTx n h lt lr ld)) := Lib.hid (by
        rw [HR.out, ← hz3, HZ.out, HQN.out, ← hsr, ← hsd, txt_app, txt_app])
      have s5 : wr.drew.cell? ⟨w.heap.size, 0, none⟩ = some (.int .i64 (n : Int)) ∧ wr.drew.cell? ⟨w.heap.size, 1, none⟩ = some (.int .i64 (h : Int)) ∧ wr.drew.cell? ⟨w.heap.size, 2, none⟩ = some (.slice At nt ct) ∧ wr.drew.cell? ⟨w.heap.size, 3, none⟩ = some (.slice Ar nr cr) ∧ wr.drew.cell? ⟨w.heap.size, 4, none⟩ = some (.slice Ad nd cd) ∧ Kp w wr.drew := ⟨c0, c1, c2, c3, c4, kr.drew⟩
      have s1 := s5
      clear hsr hsd HZ
      go_wp2_with fail
      refine wp_region_held_drew (S := (fun w' => w'.cell? ⟨w.heap.size, 0, none⟩ = some (.int .i64 (n : Int)) ∧ w'.cell? ⟨w.heap.size, 1, none⟩ = some (.int .i64 (h : Int)) ∧ w'.cell? ⟨w.heap.size, 2, none⟩ = some (.slice At nt ct) ∧ w'.cell? ⟨w.heap.size, 3, none⟩ = some (.slice Ar nr cr) ∧ w'.cell? ⟨w.heap.size, 4, none⟩ = some (.slice Ad nd cd) ∧ Kp w w')) (by kernel_rfl) ?_ (fun hHeld => ?_)
      · exact s1
      refine wpAnyH_take (i := 0) (oi := ⟨some 39, _, _, _, _, _⟩) (v := ?_) rfl (by kernel_rfl) (by kernel_rfl) (by kernel_rfl) (fun _ _ _ h => h) (Or.inl ⟨by rfl, ?_⟩) (by assumption) ?_
      rotate_left
      · intro w hSw; (try dsimp only at hSw); go_simp; (all_goals with_reducible rfl)
      simp only [Act.put, List.setIfInBounds_toArray, List.set_cons_zero, List.set_cons_succ]
      refine wpAnyH_take (i := 1) (oi := ⟨some 40, _, _, _, _, _⟩) (v := ?_) rfl (by kernel_rfl) (by kernel_rfl) (by kernel_rfl) (fun _ _ _ h => h) (Or.inl ⟨by rfl, ?_⟩) (by assumption) ?_
      rotate_left
      · intro w hSw; (try dsimp only at hSw); go_simp; (all_goals with_reducible rfl)
      simp only [Act.put, List.setIfInBounds_toArray, List.set_cons_zero, List.set_cons_succ]
      refine wpAnyH_take (i := 2) (oi := ⟨some 41, _, _, _, _, _⟩) (v := ?_) rfl (by kernel_rfl) (by kernel_rfl) (by kernel_rfl) (fun _ _ _ h => h) (Or.inl ⟨by rfl, ?_⟩) (by assumption) ?_
      rotate_left
      · intro w hSw; (try dsimp only at hSw); go_simp; (all_goals with_reducible rfl)
      simp only [Act.put, List.setIfInBounds_toArray, List.set_cons_zero, List.set_cons_succ]
      refine wpAnyH_take (i := 5) (oi := ⟨some 44, _, _, _, _, _⟩) (v := ?_) rfl (by kernel_rfl) (by kernel_rfl) (by kernel_rfl) (fun _ _ _ h => h) (Or.inl ⟨by rfl, ?_⟩) (by assumption) ?_
      rotate_left
      · intro w hSw; (try dsimp only at hSw); go_simp; (all_goals with_reducible rfl)
      simp only [Act.put, List.setIfInBounds_toArray, List.set_cons_zero, List.set_cons_succ]
      refine wpAnyH_take (i := 6) (oi := ⟨some 45, _, _, _, _, _⟩) (v := ?_) rfl (by kernel_rfl) (by kernel_rfl) (by kernel_rfl) (fun _ _ _ h => h) (Or.inl ⟨by rfl, ?_⟩) (by assumption) ?_
      rotate_left
      · intro w hSw; (try dsimp only at hSw); go_simp; (all_goals with_reducible rfl)
      simp only [Act.put, List.setIfInBounds_toArray, List.set_cons_zero, List.set_cons_succ]
      refine wpAnyH_ready (rs := [3]) (by kernel_rfl) (by simp) ?_
      refine AllReadyH.cons (o := ⟨some 42, _, _, _, _, _⟩) rfl (fun K hK => ?_) AllReadyH.nil
      go_simp
      refine (CR.out _ (HRR.out.keep s5.2.2.2.2.2)).mono ?_; rintro e1 w1 ⟨rfl, k1⟩; have s6 : w1.cell? ⟨w.heap.size, 0, none⟩ = some (.int .i64 (n : Int)) ∧ w1.cell? ⟨w.heap.size, 1, none⟩ = some (.int .i64 (h : Int)) ∧ w1.cell? ⟨w.heap.size, 2, none⟩ = some (.slice At nt ct) ∧ w1.cell? ⟨w.heap.size, 3, none⟩ = some (.slice Ar nr cr) ∧ w1.cell? ⟨w.heap.size, 4, none⟩ = some (.slice Ad nd cd) ∧ Kp w w1 := ⟨k1.cell s5.1, k1.cell s5.2.1, k1.cell s5.2.2.1, k1.cell s5.2.2.2.1, k1.cell s5.2.2.2.2.1, s5.2.2.2.2.2.trans k1⟩; clear k1
      go_wp2_with fail
      refine hK.out _ _ ?_ (fun hHeld => ?_)
      · (try dsimp only); (first | assumption | exact s7 | exact s6 | exact s5)
      clear hK K
      try simp only [Act.put, List.setIfInBounds_toArray, List.set_cons_zero, List.set_cons_succ]
      refine wpAnyH_take (i := 4) (oi := ⟨some 43, _, _, _, _, _⟩) (v := ?_) rfl (by kernel_rfl) (by kernel_rfl) (by kernel_rfl) (fun _ _ _ h => h) (Or.inl ⟨by rfl, ?_⟩) (by assumption) ?_
      rotate_left
      · intro w hSw; (try dsimp only at hSw); go_simp; (all_goals with_reducible rfl)
      simp only [Act.put, List.setIfInBounds_toArray, List.set_cons_zero, List.set_cons_succ]
      refine wpAnyH_ready (rs := [7]) (by kernel_rfl) (by simp) ?_
      refine AllReadyH.cons (o := ⟨some 46, _, _, _, _, _⟩) rfl (fun K hK => ?_) AllReadyH.nil
      go_simp
      refine (CD.out _ (HRD.out.keep s6.2.2.2.2.2)).mono ?_; rintro e2 w2 ⟨rfl, k2⟩; have s7 : w2.cell? ⟨w.heap.size, 0, none⟩ = some (.int .i64 (n : Int)) ∧ w2.cell? ⟨w.heap.size, 1, none⟩ = some (.int .i64 (h : Int)) ∧ w2.cell? ⟨w.heap.size, 2, none⟩ = some (.slice At nt ct) ∧ w2.cell? ⟨w.heap.size, 3, none⟩ = some (.slice Ar nr cr) ∧ w2.cell? ⟨w.heap.size, 4, none⟩ = some (.slice Ad nd cd) ∧ Kp w w2 := ⟨k2.cell s6.1, k2.cell s6.2.1, k2.cell s6.2.2.1, k2.cell s6.2.2.2.1, k2.cell s6.2.2.2.2.1, s6.2.2.2.2.2.trans k2⟩; clear k2
      go_wp2_with fail
      refine hK.out _ _ ?_ (fun hHeld => ?_)
      · (try dsimp only); (first | assumption | exact s7 | exact s6 | exact s5)
      clear hK K
      try simp only [Act.put, List.setIfInBounds_toArray, List.set_cons_zero, List.set_cons_succ]
      refine wpAnyH_take (i := 8) (oi := ⟨some 47, _, _, _, _, _⟩) (v := ?_) rfl (by kernel_rfl) (by kernel_rfl) (by kernel_rfl) (fun _ _ _ h => h) (Or.inl ⟨by rfl, ?_⟩) (by assumption) ?_
      rotate_left
      · intro w hSw; (try dsimp only at hSw); go_simp; (all_goals with_reducible rfl)
      simp only [Act.put, List.setIfInBounds_toArray, List.set_cons_zero, List.set_cons_succ]
      refine wpAnyH_take (i := 9) (oi := ⟨some 2, _, _, _, _, _⟩) (v := ?_) rfl (by kernel_rfl) (by kernel_rfl) (by kernel_rfl) (fun _ _ _ h => h) (Or.inl ⟨by rfl, ?_⟩) (by assumption) ?_
      rotate_left
      · intro w hSw; (try dsimp only at hSw); go_simp; (all_goals with_reducible rfl)
      simp only [Act.put, List.setIfInBounds_toArray, List.set_cons_zero, List.set_cons_succ]
      refine wpAnyH_done (by kernel_rfl) ?_ _
      go_wp2_with fail
      go_ret
      exact ⟨ret_str HE.out, s7.2.2.2.2.2⟩

end Go.Proofs.YtpdcmpojjchobaaDoor
