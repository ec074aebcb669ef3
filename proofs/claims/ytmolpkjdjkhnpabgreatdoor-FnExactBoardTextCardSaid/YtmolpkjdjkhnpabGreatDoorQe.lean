/-
  Texts of this seat in one module: MpS, Fil, SpL, ImK, Con, TabK, ImT, ImU, LiO, RuT, ImR, MpT.
-/
import Derived.Lib.AppendZeros
import Derived.Maps.AppendAt
import Derived.Test.YtmolpkjdjkhnpabGreatDoorShelf
import Derived.WalkSmall
import Derived.Test.YtmolpkjdjkhnpabGreatDoorQa
import Derived.Test.YtmolpkjdjkhnpabGreatDoorQc
import Derived.Test.YtmolpkjdjkhnpabGreatDoorQd

/-
  The text of a map, as the reference writes it.
-/
namespace Go.Proofs.YtmolpkjdjkhnpabGreatDoor
open Go.RowKit

set_option maxRecDepth 100000 in
set_option maxHeartbeats 4000000 in
theorem mList_any (word : ByteArray) (v : Value) (l : List Int) (w : World) (hr : RdI w v l) (hl : l.length ≤ 1048576) (hb : ∀ x ∈ l, 0 ≤ x ∧ x < 1000) (hw : word.size ≤ 100) :
    Calls Tryz.prog 58 #[.string word, v] w fun e w' => e = .returned (.string (txt (word.data.toList ++ numsT l ++ [10]))) ∧ Kp w w' := by
  obtain ⟨A, c, rfl, hA⟩ := hr
  obtain ⟨n, hn⟩ : ∃ n, l.length = n := ⟨_, rfl⟩
  rw [hn] at hA hl ⊢
  have HN := Lib.hid hn
  have HA := Lib.hid hA
  have HB := Lib.hid hb
  have HL := Lib.hid (fun (q : Nat) => numsT_len (l.take q) (fun x hx => hb x (List.mem_of_mem_take hx)))
  have Z0 : Hid (word = txt (word.data.toList ++ numsT (l.take 0))) := Lib.hid (by simp [numsT, txt_of])
  obtain ⟨wl, hwl⟩ : ∃ wl, word.data.toList = wl := ⟨_, rfl⟩
  have hwz : wl.length ≤ 100 := by rw [← hwl]; exact hw
  rw [hwl] at Z0 ⊢
  clear hn hA hb hwl
  go_enter Tryz.func58, Tryz.ntmps58
  go_wp2_with fail
  go_loopw [0, 6, 9] (fun s _ i wr => ∃ (q : Nat) (z : ByteArray), q ≤ n ∧ i = .int .i64 q ∧ s = .string z ∧ Hid (z = txt (wl ++ numsT (l.take q))) ∧ Kp w wr) (fun _ _ i _ => n - (intOf i).toNat)
  case atStart => exact ⟨0, _, by omega, rfl, rfl, Z0, Kp.refl _⟩
  case round =>
    clear Z0
    obtain ⟨q, z, hq, rfl, rfl, HZ, kr⟩ := hrel
    have hz : z.size ≤ 100 + 4 * 1048576 := by
      have h1 := congrArg ByteArray.size HZ.out
      have h2 := HL.out q
      rw [txt_size, List.length_append] at h1
      rw [List.length_take] at h2
      omega
    by_cases hlt : q < n
    · have hlt' : (q : Int) < n := by omega
      obtain ⟨x, hx⟩ : ∃ x, l[q]? = some x := ⟨l[q]'(by have := HN.out; omega), List.getElem?_eq_getElem _⟩
      obtain ⟨g, off, rfl, hc⟩ := HA.out (by have := HN.out; omega)
      have a0 := kr.cell (hc q x hx)
      have hx1 := HB.out x (List.mem_of_getElem? hx)
      have HM := Lib.hid (numsT_more hx)
      obtain ⟨k, rfl⟩ : ∃ k : Nat, x = k := ⟨x.toNat, by omega⟩
      have CX := Lib.hid (fun w => l1Num_any k w (by omega))
      obtain ⟨sx, hsx⟩ : ∃ y, decT k = y := ⟨_, rfl⟩
      have zsx : sx.size ≤ 3 := by rw [← hsx, decT_txt, txt_size]; exact digits_len3 (by omega)
      rw [hsx] at CX
      obtain ⟨p1, hp1⟩ : ∃ y, ByteArray.mk #[32] ++ sx = y := ⟨_, rfl⟩
      have zp1 : p1.size ≤ 4 := by rw [← hp1, ByteArray.size_append]; have : (ByteArray.mk #[32]).size = 1 := rfl; omega
      have y1 : ¬ 9223372036854775807 < 1 + sx.size := by omega
      have y2 : ¬ 9223372036854775807 < z.size + p1.size := by omega
      have HN2 : Hid (z ++ p1 = txt (wl ++ numsT (l.take (q + 1)))) := Lib.hid (by
        rw [HM.out, HZ.out, ← hp1, ← hsx, decT_txt, itoa_pos (by omega), Int.toNat_natCast, show ByteArray.mk #[32] = txt [32] from rfl, txt_app, txt_app]
        simp)
      clear hx hc hx1 hsx HZ
      go_wp2_with fail
      refine (CX.out _).mono ?_
      rintro e1 w1 ⟨rfl, k1⟩
      have kr1 := kr.trans k1
      clear k1 kr
      go_wp2_with fail
      go_roundw
      case rel => exact ⟨q + 1, _, by omega, by go_num, rfl, HN2, kr1⟩
      case measure => simp [intOf]; omega
    · obtain rfl : q = n := by omega
      have HE : Hid (z ++ ByteArray.mk #[10] = txt (wl ++ numsT l ++ [10])) := Lib.hid (by
        have h1 := HZ.out
        rw [List.take_of_length_le (by rw [HN.out]; omega)] at h1
        rw [h1, show ByteArray.mk #[10] = txt [10] from rfl, txt_app])
      have y1 : ¬ 9223372036854775807 < z.size + 1 := by omega
      clear HZ
      go_wp2_with fail
      go_ret
      exact ⟨ret_str HE.out, kr⟩

set_option maxRecDepth 100000 in
set_option maxHeartbeats 16000000 in
theorem mText_any (n h : Nat) (At Ar Ad : Option Addr) (nt ct nr cr nd cd : Nat) (lt lr ld : List Int) (w : World) (ht : RdI w (.slice At nt ct) lt) (hr : RdI w (.slice Ar nr cr) lr) (hd : RdI w (.slice Ad nd cd) ld)
    (h1 : 1 ≤ n ∧ n ≤ 10) (h2 : 1 ≤ h ∧ h ≤ 10) (htb : ∀ x ∈ lt, 0 ≤ x ∧ x < 100) (hrb : ∀ x ∈ lr, 0 ≤ x ∧ x < 1000) (hdb : ∀ x ∈ ld, 0 ≤ x ∧ x < 1000) (l1 : lt.length ≤ 1048576) (l2 : lr.length ≤ 1048576) (l3 : ld.length ≤ 1048576) :
    Calls Tryz.prog 27 #[mp n h (.slice At nt ct) (.slice Ar nr cr) (.slice Ad nd cd)] w fun e w' => e = .returned (.string (txt (mapTx n h lt lr ld))) ∧ Kp w w' := by
  have e1 : lt.length = nt := by obtain ⟨A, c, e, _⟩ := ht; injection e with _ e2 _; exact e2.symm
  obtain ⟨A', c', e', hAt⟩ := ht
  injection e' with e3 e4 e5
  subst e3
  have HAt := Lib.hid hAt
  have CA := Lib.hid (fun w => l1Num_any n w (by omega))
  have CB := Lib.hid (fun w => l1Num_any h w (by omega))
  obtain ⟨sa, hsa⟩ : ∃ y, decT n = y := ⟨_, rfl⟩
  obtain ⟨sb, hsb⟩ : ∃ y, decT h = y := ⟨_, rfl⟩
  have zsa : sa.size ≤ 2 := by rw [← hsa, decT_txt, txt_size]; exact dec_len (by omega)
  have zsb : sb.size ≤ 2 := by rw [← hsb, decT_txt, txt_size]; exact dec_len (by omega)
  rw [hsa] at CA
  rw [hsb] at CB
  obtain ⟨q1, hq1⟩ : ∃ y, ByteArray.mk #[109, 97, 112, 32] ++ sa = y := ⟨_, rfl⟩
  have zq1 : q1.size ≤ 6 := by rw [← hq1, ByteArray.size_append]; have : (ByteArray.mk #[109, 97, 112, 32]).size = 4 := rfl; omega
  obtain ⟨q2, hq2⟩ : ∃ y, q1 ++ ByteArray.mk #[32] = y := ⟨_, rfl⟩
  have zq2 : q2.size ≤ 7 := by rw [← hq2, ByteArray.size_append]; have : (ByteArray.mk #[32]).size = 1 := rfl; omega
  obtain ⟨q3, hq3⟩ : ∃ y, q2 ++ sb = y := ⟨_, rfl⟩
  have zq3 : q3.size ≤ 9 := by rw [← hq3, ByteArray.size_append]; omega
  obtain ⟨q4, hq4⟩ : ∃ y, q3 ++ ByteArray.mk #[10] = y := ⟨_, rfl⟩
  have zq4 : q4.size ≤ 10 := by rw [← hq4, ByteArray.size_append]; have : (ByteArray.mk #[10]).size = 1 := rfl; omega
  have y1 : ¬ 9223372036854775807 < 4 + sa.size := by omega
  have y2 : ¬ 9223372036854775807 < q1.size + 1 := by omega
  have y3 : ¬ 9223372036854775807 < q2.size + sb.size := by omega
  have y4 : ¬ 9223372036854775807 < q3.size + 1 := by omega
  obtain ⟨HD, hHD⟩ : ∃ y, y = [109, 97, 112, 32] ++ Lib.decDigits n ++ [32] ++ Lib.decDigits h ++ [10] := ⟨_, rfl⟩
  have HQ4 : Hid (q4 = txt (HD ++ gT n lt 0)) := Lib.hid (by
    rw [← hq4, ← hq3, ← hq2, ← hq1, ← hsa, ← hsb, decT_txt, decT_txt, hHD, show ByteArray.mk #[109, 97, 112, 32] = txt [109, 97, 112, 32] from rfl, show ByteArray.mk #[32] = txt [32] from rfl, show ByteArray.mk #[10] = txt [10] from rfl, txt_app, txt_app, txt_app, txt_app]
    simp [gT])
  have HDL : Hid (HD.length ≤ 10) := Lib.hid (by have := congrArg ByteArray.size HQ4.out; rw [txt_size] at this; simp only [gT, List.append_nil] at this; omega)
  have HR : Hid (mapTx n h lt lr ld = HD ++ gT n lt nt ++ ([114, 105, 118, 101, 114, 115] ++ numsT lr ++ [10]) ++ ([114, 111, 97, 100, 115] ++ numsT ld ++ [10])) := Lib.hid (by rw [hHD, ← e1]; unfold mapTx; simp only [Int.toNat_natCast])
  have HRR := Lib.hid hr
  have HRD := Lib.hid hd
  have HTB := Lib.hid htb
  have HGL := Lib.hid (gT_len n lt htb)
  have HE1 := Lib.hid e1
  have ntb : nt ≤ 1048576 := by omega
  have CR := Lib.hid (fun w hr => mList_any (ByteArray.mk #[114, 105, 118, 101, 114, 115]) (.slice Ar nr cr) lr w hr l2 hrb (by decide))
  have CD := Lib.hid (fun w hr => mList_any (ByteArray.mk #[114, 111, 97, 100, 115]) (.slice Ad nd cd) ld w hr l3 hdb (by decide))
  have HNR : Hid ((numsT lr).length ≤ 4 * 1048576) := Lib.hid (by have := numsT_len lr hrb; omega)
  have HND : Hid ((numsT ld).length ≤ 4 * 1048576) := Lib.hid (by have := numsT_len ld hdb; omega)
  have hn1 := h1.1
  have hn2 := h1.2
  have s1 : (w.alloc (.cells #[.int .i64 (n : Int), .int .i64 (h : Int), .slice At nt ct, .slice Ar nr cr, .slice Ad nd cd] 38)).drew.cell? ⟨w.heap.size, 0, none⟩ = some (.int .i64 (n : Int)) ∧ (w.alloc (.cells #[.int .i64 (n : Int), .int .i64 (h : Int), .slice At nt ct, .slice Ar nr cr, .slice Ad nd cd] 38)).drew.cell? ⟨w.heap.size, 1, none⟩ = some (.int .i64 (h : Int)) ∧ (w.alloc (.cells #[.int .i64 (n : Int), .int .i64 (h : Int), .slice At nt ct, .slice Ar nr cr, .slice Ad nd cd] 38)).drew.cell? ⟨w.heap.size, 2, none⟩ = some (.slice At nt ct) ∧ (w.alloc (.cells #[.int .i64 (n : Int), .int .i64 (h : Int), .slice At nt ct, .slice Ar nr cr, .slice Ad nd cd] 38)).drew.cell? ⟨w.heap.size, 3, none⟩ = some (.slice Ar nr cr) ∧ (w.alloc (.cells #[.int .i64 (n : Int), .int .i64 (h : Int), .slice At nt ct, .slice Ar nr cr, .slice Ad nd cd] 38)).drew.cell? ⟨w.heap.size, 4, none⟩ = some (.slice Ad nd cd) ∧ Kp w (w.alloc (.cells #[.int .i64 (n : Int), .int .i64 (h : Int), .slice At nt ct, .slice Ar nr cr, .slice Ad nd cd] 38)).drew := ⟨by simp [go_sem], by simp [go_sem], by simp [go_sem], by simp [go_sem], by simp [go_sem], ((Kp.refl w).alloc _).drew⟩
  clear hsa hsb hHD hr hd htb e1 hAt l1 l2 l3 hrb hdb h1 h2 e4 e5
  go_enter Tryz.func27, Tryz.ntmps27
  go_wp2_with fail
  refine wp_region_held_drew (S := (fun w' => w'.cell? ⟨w.heap.size, 0, none⟩ = some (.int .i64 (n : Int)) ∧ w'.cell? ⟨w.heap.size, 1, none⟩ = some (.int .i64 (h : Int)) ∧ w'.cell? ⟨w.heap.size, 2, none⟩ = some (.slice At nt ct) ∧ w'.cell? ⟨w.heap.size, 3, none⟩ = some (.slice Ar nr cr) ∧ w'.cell? ⟨w.heap.size, 4, none⟩ = some (.slice Ad nd cd) ∧ Kp w w')) (by kernel_rfl) ?_ (fun hHeld => ?_)
  · exact s1
  refine wpAnyH_take (i := 0) (oi := ⟨some 6, _, _, _, _, _⟩) (v := ?_) rfl (by kernel_rfl) (by kernel_rfl) (by kernel_rfl) (fun _ _ _ h => h) (Or.inl ⟨by rfl, ?_⟩) (by assumption) ?_
  rotate_left
  · intro w hSw; (try dsimp only at hSw); go_simp; (all_goals with_reducible rfl)
  simp only [Act.put, List.setIfInBounds_toArray, List.set_cons_zero, List.set_cons_succ]
  refine wpAnyH_take (i := 1) (oi := ⟨some 7, _, _, _, _, _⟩) (v := ?_) rfl (by kernel_rfl) (by kernel_rfl) (by kernel_rfl) (fun _ _ _ h => h) (Or.inl ⟨by rfl, ?_⟩) (by assumption) ?_
  rotate_left
  · intro w hSw; (try dsimp only at hSw); go_simp; (all_goals with_reducible rfl)
  simp only [Act.put, List.setIfInBounds_toArray, List.set_cons_zero, List.set_cons_succ]
  refine wpAnyH_take (i := 5) (oi := ⟨some 11, _, _, _, _, _⟩) (v := ?_) rfl (by kernel_rfl) (by kernel_rfl) (by kernel_rfl) (fun _ _ _ h => h) (Or.inl ⟨by rfl, ?_⟩) (by assumption) ?_
  rotate_left
  · intro w hSw; (try dsimp only at hSw); go_simp; (all_goals with_reducible rfl)
  simp only [Act.put, List.setIfInBounds_toArray, List.set_cons_zero, List.set_cons_succ]
  refine wpAnyH_take (i := 6) (oi := ⟨some 12, _, _, _, _, _⟩) (v := ?_) rfl (by kernel_rfl) (by kernel_rfl) (by kernel_rfl) (fun _ _ _ h => h) (Or.inl ⟨by rfl, ?_⟩) (by assumption) ?_
  rotate_left
  · intro w hSw; (try dsimp only at hSw); go_simp; (all_goals with_reducible rfl)
  simp only [Act.put, List.setIfInBounds_toArray, List.set_cons_zero, List.set_cons_succ]
  refine wpAnyH_ready (rs := [2]) (by kernel_rfl) (by simp) ?_
  refine AllReadyH.cons (o := ⟨some 8, _, _, _, _, _⟩) rfl (fun K hK => ?_) AllReadyH.nil
  go_simp
  refine (CA.out _).mono ?_; rintro e1 w1 ⟨rfl, k1⟩; have s2 : w1.cell? ⟨w.heap.size, 0, none⟩ = some (.int .i64 (n : Int)) ∧ w1.cell? ⟨w.heap.size, 1, none⟩ = some (.int .i64 (h : Int)) ∧ w1.cell? ⟨w.heap.size, 2, none⟩ = some (.slice At nt ct) ∧ w1.cell? ⟨w.heap.size, 3, none⟩ = some (.slice Ar nr cr) ∧ w1.cell? ⟨w.heap.size, 4, none⟩ = some (.slice Ad nd cd) ∧ Kp w w1 := ⟨k1.cell s1.1, k1.cell s1.2.1, k1.cell s1.2.2.1, k1.cell s1.2.2.2.1, k1.cell s1.2.2.2.2.1, s1.2.2.2.2.2.trans k1⟩; clear k1
  go_wp2_with fail
  refine hK.out _ _ ?_ (fun hHeld => ?_)
  · (try dsimp only); (first | assumption | exact s3 | exact s2 | exact s1)
  clear hK K
  try simp only [Act.put, List.setIfInBounds_toArray, List.set_cons_zero, List.set_cons_succ]
  refine wpAnyH_take (i := 3) (oi := ⟨some 9, _, _, _, _, _⟩) (v := ?_) rfl (by kernel_rfl) (by kernel_rfl) (by kernel_rfl) (fun _ _ _ h => h) (Or.inl ⟨by rfl, ?_⟩) (by assumption) ?_
  rotate_left
  · intro w hSw; (try dsimp only at hSw); go_simp; (all_goals with_reducible rfl)
  simp only [Act.put, List.setIfInBounds_toArray, List.set_cons_zero, List.set_cons_succ]
  refine wpAnyH_take (i := 4) (oi := ⟨some 10, _, _, _, _, _⟩) (v := ?_) rfl (by kernel_rfl) (by kernel_rfl) (by kernel_rfl) (fun _ _ _ h => h) (Or.inl ⟨by rfl, ?_⟩) (by assumption) ?_
  rotate_left
  · intro w hSw; (try dsimp only at hSw); go_simp; (all_goals with_reducible rfl)
  simp only [Act.put, List.setIfInBounds_toArray, List.set_cons_zero, List.set_cons_succ]
  refine wpAnyH_ready (rs := [7]) (by kernel_rfl) (by simp) ?_
  refine AllReadyH.cons (o := ⟨some 13, _, _, _, _, _⟩) rfl (fun K hK => ?_) AllReadyH.nil
  go_simp
  refine (CB.out _).mono ?_; rintro e2 w2 ⟨rfl, k2⟩; have s3 : w2.cell? ⟨w.heap.size, 0, none⟩ = some (.int .i64 (n : Int)) ∧ w2.cell? ⟨w.heap.size, 1, none⟩ = some (.int .i64 (h : Int)) ∧ w2.cell? ⟨w.heap.size, 2, none⟩ = some (.slice At nt ct) ∧ w2.cell? ⟨w.heap.size, 3, none⟩ = some (.slice Ar nr cr) ∧ w2.cell? ⟨w.heap.size, 4, none⟩ = some (.slice Ad nd cd) ∧ Kp w w2 := ⟨k2.cell s2.1, k2.cell s2.2.1, k2.cell s2.2.2.1, k2.cell s2.2.2.2.1, k2.cell s2.2.2.2.2.1, s2.2.2.2.2.2.trans k2⟩; clear k2
  go_wp2_with fail
  refine hK.out _ _ ?_ (fun hHeld => ?_)
  · (try dsimp only); (first | assumption | exact s3 | exact s2 | exact s1)
  clear hK K
  try simp only [Act.put, List.setIfInBounds_toArray, List.set_cons_zero, List.set_cons_succ]
  refine wpAnyH_take (i := 8) (oi := ⟨some 14, _, _, _, _, _⟩) (v := ?_) rfl (by kernel_rfl) (by kernel_rfl) (by kernel_rfl) (fun _ _ _ h => h) (Or.inl ⟨by rfl, ?_⟩) (by assumption) ?_
  rotate_left
  · intro w hSw; (try dsimp only at hSw); go_simp; (all_goals with_reducible rfl)
  simp only [Act.put, List.setIfInBounds_toArray, List.set_cons_zero, List.set_cons_succ]
  refine wpAnyH_take (i := 9) (oi := ⟨some 15, _, _, _, _, _⟩) (v := ?_) rfl (by kernel_rfl) (by kernel_rfl) (by kernel_rfl) (fun _ _ _ h => h) (Or.inl ⟨by rfl, ?_⟩) (by assumption) ?_
  rotate_left
  · intro w hSw; (try dsimp only at hSw); go_simp; (all_goals with_reducible rfl)
  simp only [Act.put, List.setIfInBounds_toArray, List.set_cons_zero, List.set_cons_succ]
  refine wpAnyH_take (i := 10) (oi := ⟨some 3, _, _, _, _, _⟩) (v := ?_) rfl (by kernel_rfl) (by kernel_rfl) (by kernel_rfl) (fun _ _ _ h => h) (Or.inl ⟨by rfl, ?_⟩) (by assumption) ?_
  rotate_left
  · intro w hSw; (try dsimp only at hSw); go_simp; (all_goals with_reducible rfl)
  simp only [Act.put, List.setIfInBounds_toArray, List.set_cons_zero, List.set_cons_succ]
  refine wpAnyH_done (by kernel_rfl) ?_ _
  obtain ⟨c0, c1, c2, c3, c4, K3⟩ := s3
  clear y1 y2 y3 y4 s1 s2
  go_wp2_with fail
  go_loopw [3, 4, 5, 19] (fun s _ _ i wr => ∃ (q : Nat) (z : ByteArray), q ≤ nt ∧ i = .int .i64 q ∧ s = .string z ∧ Hid (z = txt (HD ++ gT n lt q)) ∧ wr.cell? ⟨w.heap.size, 0, none⟩ = some (.int .i64 (n : Int)) ∧ wr.cell? ⟨w.heap.size, 1, none⟩ = some (.int .i64 (h : Int)) ∧ wr.cell? ⟨w.heap.size, 2, none⟩ = some (.slice At nt ct) ∧ wr.cell? ⟨w.heap.size, 3, none⟩ = some (.slice Ar nr cr) ∧ wr.cell? ⟨w.heap.size, 4, none⟩ = some (.slice Ad nd cd) ∧ Kp w wr) (fun _ _ _ i _ => nt - (intOf i).toNat)
  case atStart => exact ⟨0, _, by omega, rfl, rfl, HQ4, c0, c1, c2, c3, c4, K3⟩
  case round =>
    clear HQ4 c0 c1 c2 c3 c4 K3
    obtain ⟨q, z, hq, rfl, rfl, HZ, c0, c1, c2, c3, c4, kr⟩ := hrel
    have hz : z.size ≤ 10 + 3 * 1048576 := by
      have h1 := congrArg ByteArray.size HZ.out
      have h2 := HGL.out q
      have h3 := HDL.out
      rw [txt_size, List.length_append] at h1
      omega
    by_cases hlt : q < nt
    · have hlt' : (q : Int) < nt := by omega
      obtain ⟨x, hx⟩ : ∃ x, lt[q]? = some x := ⟨lt[q]'(by have := HE1.out; omega), List.getElem?_eq_getElem _⟩
      obtain ⟨g, off, rfl, hc⟩ := HAt.out (by have := HE1.out; omega)
      have a0 := kr.cell (hc q x hx)
      have hx1 := HTB.out x (List.mem_of_getElem? hx)
      have HM := Lib.hid (gT_more (n := n) hx)
      obtain ⟨k, rfl⟩ : ∃ k : Nat, x = k := ⟨x.toNat, by omega⟩
      have CX := Lib.hid (fun w => l1Num_any k w (by omega))
      obtain ⟨sx, hsx⟩ : ∃ y, decT k = y := ⟨_, rfl⟩
      have zsx : sx.size ≤ 2 := by rw [← hsx, decT_txt, txt_size]; exact dec_len (by omega)
      rw [hsx] at CX
      obtain ⟨z2, hz2⟩ : ∃ y, z ++ sx = y := ⟨_, rfl⟩
      have zz2 : z2.size ≤ 12 + 3 * 1048576 := by rw [← hz2, ByteArray.size_append]; omega
      have y1 : ¬ 9223372036854775807 < z.size + sx.size := by omega
      have y2 : ¬ 9223372036854775807 < z2.size + 1 := by omega
      have HN2 : Hid (z2 = txt (HD ++ (gT n lt q ++ Lib.decDigits k))) := Lib.hid (by
        rw [← hz2, HZ.out, ← hsx, decT_txt, txt_app]
        simp)
      have m1 : (q : Int).tmod (n : Int) = ((q % n : Nat) : Int) := by rw [Int.tmod_eq_emod_of_nonneg (by omega)]; omega
      have m2 : ¬ (n : Int) = 0 := by omega
      have hql : q % n < n := Nat.mod_lt _ (by omega)
      have m3 : IntKind.i64.wrap (((q % n : Nat) : Int)) = ((q % n : Nat) : Int) := IntWalk.i64_in _ (by omega)
      have m4 : IntKind.i64.wrap ((n : Int) - 1) = (n : Int) - 1 := IntWalk.i64_in _ (by omega)
      clear hx hc hx1 hsx HZ
      by_cases hmod : q % n = n - 1
      · have m5 : (((q % n : Nat) : Int) == (n : Int) - 1) = true := by simp; omega
        have HN3 : Hid (z2 ++ ByteArray.mk #[10] = txt (HD ++ gT n lt (q + 1))) := Lib.hid (by
          rw [HM.out, HN2.out, if_pos hmod, Int.toNat_natCast, show ByteArray.mk #[10] = txt [10] from rfl, txt_app]
          simp)
        generalize q % n = r at *
        go_wp2_with fail
        refine (CX.out _).mono ?_
        rintro e1 w1 ⟨rfl, k1⟩
        have t0 := k1.cell c0
        have t1 := k1.cell c1
        have t2 := k1.cell c2
        have t3 := k1.cell c3
        have t4 := k1.cell c4
        have kr1 := kr.trans k1
        clear k1 kr c0 c1 c2 c3 c4
        go_wp2_with fail
        go_quiet (fail)
        go_wp2_with fail
        go_roundw
        case rel => exact ⟨q + 1, _, by omega, by go_num, rfl, HN3, by simpa [go_sem] using t0, by simpa [go_sem] using t1, by simpa [go_sem] using t2, by simpa [go_sem] using t3, by simpa [go_sem] using t4, kr1.drewN _⟩
        case measure => simp [intOf]; omega
      · have m5 : (((q % n : Nat) : Int) == (n : Int) - 1) = false := by simp; omega
        have HN3 : Hid (z2 = txt (HD ++ gT n lt (q + 1))) := Lib.hid (by
          rw [HM.out, HN2.out, if_neg hmod, Int.toNat_natCast]
          simp)
        generalize q % n = r at *
        go_wp2_with fail
        refine (CX.out _).mono ?_
        rintro e1 w1 ⟨rfl, k1⟩
        have t0 := k1.cell c0
        have t1 := k1.cell c1
        have t2 := k1.cell c2
        have t3 := k1.cell c3
        have t4 := k1.cell c4
        have kr1 := kr.trans k1
        clear k1 kr c0 c1 c2 c3 c4
        go_wp2_with fail
        go_quiet (fail)
        go_wp2_with fail
        go_roundw
        case rel => exact ⟨q + 1, _, by omega, by go_num, rfl, HN3, by simpa [go_sem] using t0, by simpa [go_sem] using t1, by simpa [go_sem] using t2, by simpa [go_sem] using t3, by simpa [go_sem] using t4, kr1.drewN _⟩
        case measure => simp [intOf]; omega
    · have HQN := Lib.hid (show q = nt by omega)
      have hge : ¬ (q : Int) < nt := by omega
      obtain ⟨sr, hsr⟩ : ∃ y, txt ((ByteArray.mk #[114, 105, 118, 101, 114, 115]).data.toList ++ numsT lr ++ [10]) = y := ⟨_, rfl⟩
      obtain ⟨sd, hsd⟩ : ∃ y, txt ((ByteArray.mk #[114, 111, 97, 100, 115]).data.toList ++ numsT ld ++ [10]) = y := ⟨_, rfl⟩
      have zsr : sr.size ≤ 7 + 4 * 1048576 := by rw [← hsr, txt_size, List.length_append, List.length_append]; have := HNR.out; have : (ByteArray.mk #[114, 105, 118, 101, 114, 115]).data.toList.length = 6 := rfl; simp only [List.length_cons, List.length_nil]; omega
      have zsd : sd.size ≤ 6 + 4 * 1048576 := by rw [← hsd, txt_size, List.length_append, List.length_append]; have := HND.out; have : (ByteArray.mk #[114, 111, 97, 100, 115]).data.toList.length = 5 := rfl; simp only [List.length_cons, List.length_nil]; omega
      rw [hsr] at CR
      rw [hsd] at CD
      obtain ⟨z3, hz3⟩ : ∃ y, z ++ sr = y := ⟨_, rfl⟩
      have zz3 : z3.size ≤ 17 + 7 * 1048576 := by rw [← hz3, ByteArray.size_append]; omega
      have y1 : ¬ 9223372036854775807 < z.size + sr.size := by omega
      have y2 : ¬ 9223372036854775807 < z3.size + sd.size := by omega
      have HE : Hid (z3 ++ sd = txt (mapTx n h lt lr ld)) := Lib.hid (by
        rw [HR.out, ← hz3, HZ.out, HQN.out, ← hsr, ← hsd, txt_app, txt_app])
      have s5 : wr.drew.cell? ⟨w.heap.size, 0, none⟩ = some (.int .i64 (n : Int)) ∧ wr.drew.cell? ⟨w.heap.size, 1, none⟩ = some (.int .i64 (h : Int)) ∧ wr.drew.cell? ⟨w.heap.size, 2, none⟩ = some (.slice At nt ct) ∧ wr.drew.cell? ⟨w.heap.size, 3, none⟩ = some (.slice Ar nr cr) ∧ wr.drew.cell? ⟨w.heap.size, 4, none⟩ = some (.slice Ad nd cd) ∧ Kp w wr.drew := ⟨c0, c1, c2, c3, c4, kr.drew⟩
      have s1 := s5
      clear hsr hsd HZ
      go_wp2_with fail
      refine wp_region_held_drew (S := (fun w' => w'.cell? ⟨w.heap.size, 0, none⟩ = some (.int .i64 (n : Int)) ∧ w'.cell? ⟨w.heap.size, 1, none⟩ = some (.int .i64 (h : Int)) ∧ w'.cell? ⟨w.heap.size, 2, none⟩ = some (.slice At nt ct) ∧ w'.cell? ⟨w.heap.size, 3, none⟩ = some (.slice Ar nr cr) ∧ w'.cell? ⟨w.heap.size, 4, none⟩ = some (.slice Ad nd cd) ∧ Kp w w')) (by kernel_rfl) ?_ (fun hHeld => ?_)
      · exact s1
      refine wpAnyH_take (i := 0) (oi := ⟨some 39, _, _, _, _, _⟩) (v := ?_) rfl (by kernel_rfl) (by kernel_rfl) (by kernel_rfl) (fun _ _ _ h => h) (Or.inl ⟨by rfl, ?_⟩) (by assumption) ?_
      rotate_left
      · intro w hSw; (try dsimp only at hSw); go_simp; (all_goals with_reducible rfl)
      simp only [Act.put, List.setIfInBounds_toArray, List.set_cons_zero, List.set_cons_succ]
      refine wpAnyH_take (i := 1) (oi := ⟨some 40, _, _, _, _, _⟩) (v := ?_) rfl (by kernel_rfl) (by kernel_rfl) (by kernel_rfl) (fun _ _ _ h => h) (Or.inl ⟨by rfl, ?_⟩) (by assumption) ?_
      rotate_left
      · intro w hSw; (try dsimp only at hSw); go_simp; (all_goals with_reducible rfl)
      simp only [Act.put, List.setIfInBounds_toArray, List.set_cons_zero, List.set_cons_succ]
      refine wpAnyH_take (i := 2) (oi := ⟨some 41, _, _, _, _, _⟩) (v := ?_) rfl (by kernel_rfl) (by kernel_rfl) (by kernel_rfl) (fun _ _ _ h => h) (Or.inl ⟨by rfl, ?_⟩) (by assumption) ?_
      rotate_left
      · intro w hSw; (try dsimp only at hSw); go_simp; (all_goals with_reducible rfl)
      simp only [Act.put, List.setIfInBounds_toArray, List.set_cons_zero, List.set_cons_succ]
      refine wpAnyH_take (i := 5) (oi := ⟨some 44, _, _, _, _, _⟩) (v := ?_) rfl (by kernel_rfl) (by kernel_rfl) (by kernel_rfl) (fun _ _ _ h => h) (Or.inl ⟨by rfl, ?_⟩) (by assumption) ?_
      rotate_left
      · intro w hSw; (try dsimp only at hSw); go_simp; (all_goals with_reducible rfl)
      simp only [Act.put, List.setIfInBounds_toArray, List.set_cons_zero, List.set_cons_succ]
      refine wpAnyH_take (i := 6) (oi := ⟨some 45, _, _, _, _, _⟩) (v := ?_) rfl (by kernel_rfl) (by kernel_rfl) (by kernel_rfl) (fun _ _ _ h => h) (Or.inl ⟨by rfl, ?_⟩) (by assumption) ?_
      rotate_left
      · intro w hSw; (try dsimp only at hSw); go_simp; (all_goals with_reducible rfl)
      simp only [Act.put, List.setIfInBounds_toArray, List.set_cons_zero, List.set_cons_succ]
      refine wpAnyH_ready (rs := [3]) (by kernel_rfl) (by simp) ?_
      refine AllReadyH.cons (o := ⟨some 42, _, _, _, _, _⟩) rfl (fun K hK => ?_) AllReadyH.nil
      go_simp
      refine (CR.out _ (HRR.out.keep s5.2.2.2.2.2)).mono ?_; rintro e1 w1 ⟨rfl, k1⟩; have s6 : w1.cell? ⟨w.heap.size, 0, none⟩ = some (.int .i64 (n : Int)) ∧ w1.cell? ⟨w.heap.size, 1, none⟩ = some (.int .i64 (h : Int)) ∧ w1.cell? ⟨w.heap.size, 2, none⟩ = some (.slice At nt ct) ∧ w1.cell? ⟨w.heap.size, 3, none⟩ = some (.slice Ar nr cr) ∧ w1.cell? ⟨w.heap.size, 4, none⟩ = some (.slice Ad nd cd) ∧ Kp w w1 := ⟨k1.cell s5.1, k1.cell s5.2.1, k1.cell s5.2.2.1, k1.cell s5.2.2.2.1, k1.cell s5.2.2.2.2.1, s5.2.2.2.2.2.trans k1⟩; clear k1
      go_wp2_with fail
      refine hK.out _ _ ?_ (fun hHeld => ?_)
      · (try dsimp only); (first | assumption | exact s7 | exact s6 | exact s5)
      clear hK K
      try simp only [Act.put, List.setIfInBounds_toArray, List.set_cons_zero, List.set_cons_succ]
      refine wpAnyH_take (i := 4) (oi := ⟨some 43, _, _, _, _, _⟩) (v := ?_) rfl (by kernel_rfl) (by kernel_rfl) (by kernel_rfl) (fun _ _ _ h => h) (Or.inl ⟨by rfl, ?_⟩) (by assumption) ?_
      rotate_left
      · intro w hSw; (try dsimp only at hSw); go_simp; (all_goals with_reducible rfl)
      simp only [Act.put, List.setIfInBounds_toArray, List.set_cons_zero, List.set_cons_succ]
      refine wpAnyH_ready (rs := [7]) (by kernel_rfl) (by simp) ?_
      refine AllReadyH.cons (o := ⟨some 46, _, _, _, _, _⟩) rfl (fun K hK => ?_) AllReadyH.nil
      go_simp
      refine (CD.out _ (HRD.out.keep s6.2.2.2.2.2)).mono ?_; rintro e2 w2 ⟨rfl, k2⟩; have s7 : w2.cell? ⟨w.heap.size, 0, none⟩ = some (.int .i64 (n : Int)) ∧ w2.cell? ⟨w.heap.size, 1, none⟩ = some (.int .i64 (h : Int)) ∧ w2.cell? ⟨w.heap.size, 2, none⟩ = some (.slice At nt ct) ∧ w2.cell? ⟨w.heap.size, 3, none⟩ = some (.slice Ar nr cr) ∧ w2.cell? ⟨w.heap.size, 4, none⟩ = some (.slice Ad nd cd) ∧ Kp w w2 := ⟨k2.cell s6.1, k2.cell s6.2.1, k2.cell s6.2.2.1, k2.cell s6.2.2.2.1, k2.cell s6.2.2.2.2.1, s6.2.2.2.2.2.trans k2⟩; clear k2
      go_wp2_with fail
      refine hK.out _ _ ?_ (fun hHeld => ?_)
      · (try dsimp only); (first | assumption | exact s7 | exact s6 | exact s5)
      clear hK K
      try simp only [Act.put, List.setIfInBounds_toArray, List.set_cons_zero, List.set_cons_succ]
      refine wpAnyH_take (i := 8) (oi := ⟨some 47, _, _, _, _, _⟩) (v := ?_) rfl (by kernel_rfl) (by kernel_rfl) (by kernel_rfl) (fun _ _ _ h => h) (Or.inl ⟨by rfl, ?_⟩) (by assumption) ?_
      rotate_left
      · intro w hSw; (try dsimp only at hSw); go_simp; (all_goals with_reducible rfl)
      simp only [Act.put, List.setIfInBounds_toArray, List.set_cons_zero, List.set_cons_succ]
      refine wpAnyH_take (i := 9) (oi := ⟨some 2, _, _, _, _, _⟩) (v := ?_) rfl (by kernel_rfl) (by kernel_rfl) (by kernel_rfl) (fun _ _ _ h => h) (Or.inl ⟨by rfl, ?_⟩) (by assumption) ?_
      rotate_left
      · intro w hSw; (try dsimp only at hSw); go_simp; (all_goals with_reducible rfl)
      simp only [Act.put, List.setIfInBounds_toArray, List.set_cons_zero, List.set_cons_succ]
      refine wpAnyH_done (by kernel_rfl) ?_ _
      go_wp2_with fail
      go_ret
      exact ⟨ret_str HE.out, s7.2.2.2.2.2⟩

end Go.Proofs.YtmolpkjdjkhnpabGreatDoor

/-
  A form filled by the program: its words, split at the blanks, NAME and N replaced, and joined again.
-/
namespace Go.Proofs.YtmolpkjdjkhnpabGreatDoor
open Go.RowKit

theorem drop_at {α : Type} {l : List α} {k : Nat} {x : α} (h : l[k]? = some x) : l.drop k = x :: l.drop (k + 1) := by
  obtain ⟨hk, rfl⟩ := List.getElem?_eq_some_iff.1 h
  exact List.drop_eq_getElem_cons hk
/-- The words while the form is being filled: the first q are done. -/
def doneW (ws : List (List UInt8)) (nm : List UInt8) (ns : List Int) (q : Nat) : List (List UInt8) := fillW (ws.take q) nm ns ++ ws.drop q
theorem doneW_zero (ws : List (List UInt8)) (nm : List UInt8) (ns : List Int) : doneW ws nm ns 0 = ws := by simp [doneW, fillW]
theorem doneW_all (ws : List (List UInt8)) (nm : List UInt8) (ns : List Int) : doneW ws nm ns ws.length = fillW ws nm ns := by simp [doneW]
theorem doneW_len (ws : List (List UInt8)) (nm : List UInt8) (ns : List Int) (q : Nat) (h : q ≤ ws.length) : (doneW ws nm ns q).length = ws.length := by
  rw [doneW, List.length_append, fillW_length, List.length_take, List.length_drop]
  omega
theorem doneW_here {ws : List (List UInt8)} {q : Nat} {v : List UInt8} (h : ws[q]? = some v) (nm : List UInt8) (ns : List Int) : (doneW ws nm ns q)[q]? = some v := by
  have hq := (List.getElem?_eq_some_iff.1 h).1
  rw [doneW, List.getElem?_append_right (by rw [fillW_length, List.length_take]; omega), fillW_length, List.length_take, List.getElem?_drop]
  rw [show q + (q - min q ws.length) = q by omega]
  exact h
theorem doneW_next {ws : List (List UInt8)} {q : Nat} {v : List UInt8} (h : ws[q]? = some v) (nm : List UInt8) (ns : List Int) (y : List UInt8) (hy : fillW [v] nm (ns.drop (usedN (ws.take q))) = [y]) :
    doneW ws nm ns (q + 1) = (doneW ws nm ns q).set q y := by
  have hq := (List.getElem?_eq_some_iff.1 h).1
  have e1 : (fillW (ws.take q) nm ns).length = q := by rw [fillW_length, List.length_take]; omega
  have e2 : ws.drop q = v :: ws.drop (q + 1) := by
    obtain ⟨hk, rfl⟩ := List.getElem?_eq_some_iff.1 h
    exact List.drop_eq_getElem_cons hk
  rw [doneW, doneW, fillW_more h, hy, List.set_append_right _ _ (by omega), e1, Nat.sub_self, e2, List.set_cons_zero, List.append_assoc]
  rfl

/-- The cells of a list of words, from the start of block B. -/
def WordsAt (w : World) (B : Nat) (l : List (List UInt8)) : Prop := ∀ j y, l[j]? = some y → w.cell? ⟨B, j, none⟩ = some (.string (txt y))
theorem WordsAt.set {w : World} {B q : Nat} {l : List (List UInt8)} (h : WordsAt w B l) (hq : q < l.length) (y : List UInt8) (hc : ∃ u, w.cell? ⟨B, q, none⟩ = some u) : WordsAt (w.setCell ⟨B, q, none⟩ (.string (txt y))) B (l.set q y) := by
  intro j z hz
  by_cases e : j = q
  · subst e
    rw [List.getElem?_set_self hq] at hz
    obtain rfl := Option.some.inj hz
    obtain ⟨u, hu⟩ := hc
    exact World.cell?_setCell_same _ _ _ hu
  · rw [List.getElem?_set_ne (fun e2 => e e2.symm)] at hz
    have := h j z hz
    rw [World.cell?_setCell_other]
    · exact this
    · intro e2
      injection e2 with _ e3
      exact e e3.symm

theorem WordsAt.same {w : World} {B q : Nat} {l : List (List UInt8)} {y : List UInt8} (h : WordsAt w B l) (hy : l[q]? = some y) : WordsAt w B (l.set q y) := by
  intro j z hz
  by_cases e : j = q
  · subst e
    rw [List.getElem?_set_self (List.getElem?_eq_some_iff.1 hy).1] at hz
    obtain rfl := Option.some.inj hz
    exact h j _ hy
  · rw [List.getElem?_set_ne (fun e2 => e e2.symm)] at hz
    exact h j z hz
theorem bytes_ne {a b : List UInt8} (h : a ≠ b) : txt a ≠ txt b := fun e => h (by
  have := congrArg (fun s : ByteArray => s.data.toList) e
  simpa [txt] using this)

set_option maxRecDepth 100000 in
set_option maxHeartbeats 8000000 in
theorem filledForm_any (form nm : ByteArray) (x0 : List UInt8) (r0 : List (List UInt8)) (ns : List Int) (g off n cap : Nat) (w : World)
    (hfs : form.size < 4294967281) (hf : form.data.toList = Lib.join (x0 :: r0) [32]) (hb : ∀ y ∈ x0 :: r0, (32 : UInt8) ∉ y) (hl : r0.length ≤ 1000)
    (hns : ns.length = n) (hn : n ≤ cap) (hcap : cap ≤ 9223372036854775807) (hu : usedN (x0 :: r0) ≤ n)
    (hc : ∀ i x, ns[i]? = some x → w.cell? ⟨g, off + i, none⟩ = some (.int .i64 x))
    (hi : ∀ x ∈ ns, ∀ w', Kp w w' → Calls Tryz.prog 70 #[.int .i64 x] w' fun e w'' => e = .returned (.string (txt (Lib.itoa x))) ∧ Kp w' w'')
    (hsz : (Lib.join (fillW (x0 :: r0) nm.data.toList ns) [32]).length ≤ 140737488355328) :
    Calls Tryz.prog 72 #[.string form, .string nm, .slice (some ⟨g, off, none⟩) n cap] w fun e w' => e = .returned (.string (txt (Lib.join (fillW (x0 :: r0) nm.data.toList ns) [32]))) ∧ Kp w w' := by
  have CS := Lib.hid (split_one form 32 x0 r0 w hfs hf hb)
  obtain ⟨ws, hws⟩ : ∃ ws, ws = x0 :: r0 := ⟨_, rfl⟩
  obtain ⟨m, hm⟩ : ∃ m, m = r0.length + 1 := ⟨_, rfl⟩
  have hwl : ws.length = m := by rw [hws, hm]; rfl
  rw [← hws] at hu hsz CS ⊢
  rw [← hm] at CS
  have hm2 : m ≤ 1001 := by omega
  have HWL := Lib.hid hwl
  have HNS := Lib.hid hns
  have HC := Lib.hid hc
  have HI := Lib.hid hi
  have HU := Lib.hid hu
  have HSZ := Lib.hid hsz
  have W0 : Hid (WordsAt (w.alloc (.cells (ws.map fun y => Value.string (txt y)).toArray 9)) w.heap.size (doneW ws nm.data.toList ns 0)) := Lib.hid (by
    rw [doneW_zero]
    intro j y hy
    have : (ws.map fun y => Value.string (txt y)).toArray[j]? = some (.string (txt y)) := by simp [hy]
    simp [go_sem, hy])
  clear hfs hf hb hl hns hc hi hu hsz hws hm hwl
  go_enter Tryz.func72, Tryz.ntmps72
  go_wp2_with fail
  refine CS.out.mono ?_
  rintro e1 w1 ⟨rfl, hw1⟩
  have K0 : Kp w w1 := by rw [hw1]; exact (Kp.refl w).alloc _
  have W1 := Lib.hid W0.out
  have z1 : w.heap.size < w1.heap.size := by rw [hw1]; simp
  rw [← hw1] at W1
  have HW1 := Lib.hid hw1
  clear W0 CS hw1
  go_wp2_with fail
  go_loopw [2, 8, 9, 14] (fun v _ _ i wr => ∃ (q o p c : Nat), q ≤ m ∧ i = .int .i64 q ∧ v = .slice (some ⟨g, o, none⟩) p c ∧ p ≤ c ∧ c ≤ 9223372036854775807 ∧ Hid (p + usedN (ws.take q) = n) ∧ Hid (0 < p → o = off + usedN (ws.take q)) ∧ Hid (WordsAt wr w.heap.size (doneW ws nm.data.toList ns q)) ∧ w.heap.size < wr.heap.size ∧ Hid (∀ j, j < m → wr.frozen? ⟨w.heap.size, j, none⟩ = false) ∧ Kp w wr) (fun _ _ _ i _ => m - (intOf i).toNat)
  case atStart => exact ⟨0, off, n, cap, by omega, rfl, rfl, hn, hcap, Lib.hid (by simp [usedN]), Lib.hid (by simp [usedN]), W1, z1, Lib.hid (fun j hj => by rw [HW1.out]; simp [go_sem]), K0⟩
  case round =>
    clear W1 HW1 K0 z1
    obtain ⟨q, o, p, c, hq, rfl, rfl, hpc, hcc, HP, HO, HW, hz, HF, kr⟩ := hrel
    by_cases hlt : q < m
    · have hlt' : (q : Int) < m := by omega
      obtain ⟨y, hy⟩ : ∃ y, ws[q]? = some y := ⟨ws[q]'(by have := HWL.out; omega), List.getElem?_eq_getElem _⟩
      have a0 := HW.out q y (doneW_here hy _ _)
      have f0 := HF.out q hlt
      have HM := Lib.hid (usedN_more hy)
      have HLE := Lib.hid (usedN_le ws (q + 1))
      have HLEN : Hid (q < (doneW ws nm.data.toList ns q).length) := Lib.hid (by rw [doneW_len _ _ _ _ (by rw [HWL.out]; omega), HWL.out]; exact hlt)
      have HY := Lib.hid hy
      by_cases y1 : y = [78, 65, 77, 69]
      · have HNX : Hid (doneW ws nm.data.toList ns (q + 1) = (doneW ws nm.data.toList ns q).set q nm.data.toList) := Lib.hid (doneW_next hy _ _ _ (by rw [y1]; rfl))
        have HM2 : Hid (usedN (ws.take (q + 1)) = usedN (ws.take q)) := Lib.hid (by rw [HM.out, y1]; rfl)
        have HNM := Lib.hid (txt_of nm)
        have e0 : ((txt y).toList == (ByteArray.mk #[78, 65, 77, 69]).toList) = true := (Lib.bytes_beq_iff _ _).2 (by rw [y1]; rfl)
        have e0' : ((txt y).toList == [78, 65, 77, 69]) = true := by rw [Lib.toList_data]; simp [txt, y1]
        have HYY := Lib.hid y1
        clear hy y1
        go_wp2_with fail
        go_roundw
        case rel =>
          have hs := WordsAt.set HW.out HLEN.out nm.data.toList ⟨_, a0⟩
          rw [HNM.out] at hs
          exact ⟨q + 1, o, p, c, by omega, by go_num, rfl, hpc, hcc, Lib.hid (by rw [HM2.out]; exact HP.out), Lib.hid (by rw [HM2.out]; exact HO.out), Lib.hid (by rw [HNX.out]; exact hs), by simpa using hz, Lib.hid (fun j hj => by simpa [go_sem] using HF.out j hj), kr.setCell (Nat.le_refl _) _⟩
        case measure => simp [intOf]; omega
      · have e0 : ((txt y).toList == (ByteArray.mk #[78, 65, 77, 69]).toList) = false := (Lib.bytes_beq_false_iff _ _).2 (bytes_ne (b := [78, 65, 77, 69]) y1)
        have e0' : ((txt y).toList == [78, 65, 77, 69]) = false := by rw [Lib.toList_data]; simp [txt, y1]
        by_cases y2 : y = [78]
        · have hlt2 := usedN_lt (by rw [hy, y2] : ws[q]? = some [78])
          have hp0 : 0 < p := by have := HP.out; have := HU.out; omega
          obtain ⟨p', rfl⟩ : ∃ p', p = p' + 1 := ⟨p - 1, by omega⟩
          obtain ⟨c', rfl⟩ : ∃ c', c = c' + 1 := ⟨c - 1, by omega⟩
          have hoo := HO.out hp0
          subst hoo
          obtain ⟨x, hx⟩ : ∃ x, ns[usedN (ws.take q)]? = some x := ⟨ns[usedN (ws.take q)]'(by have := HP.out; have := HNS.out; omega), List.getElem?_eq_getElem _⟩
          have b0 := kr.cell (HC.out _ x hx)
          have CX := Lib.hid (HI.out x (List.mem_of_getElem? hx) _ kr)
          have HNX : Hid (doneW ws nm.data.toList ns (q + 1) = (doneW ws nm.data.toList ns q).set q (Lib.itoa x)) := Lib.hid (doneW_next hy _ _ _ (by
            rw [y2, fillW, if_neg (by decide), if_pos rfl, fillW]
            congr 1
            have : (ns.drop (usedN (ws.take q))).headD 0 = x := by
              rw [drop_at hx]
              rfl
            rw [this]))
          have HM2 : Hid (usedN (ws.take (q + 1)) = usedN (ws.take q) + 1) := Lib.hid (by rw [HM.out, y2]; rfl)
          have e1 : ((txt y).toList == (ByteArray.mk #[78]).toList) = true := (Lib.bytes_beq_iff _ _).2 (by rw [y2]; rfl)
          have e1' : ((txt y).toList == [78]) = true := by rw [Lib.toList_data]; simp [txt, y2]
          have b00 : w.heap.size < wr.heap.size := hz
          have HYY := Lib.hid y2
          clear hy y1 y2 hx hlt2 hp0
          generalize usedN (ws.take q) = u at *
          go_wp2_with fail
          refine CX.out.mono ?_
          rintro e3 w3 ⟨rfl, k3⟩
          have a3 := k3.cell a0
          have f3 : w3.frozen? ⟨w.heap.size, q, none⟩ = false := (k3.liv ⟨a0, f0⟩).2
          have kr3 := kr.trans k3
          have hz3 : w.heap.size < w3.heap.size := Nat.lt_of_lt_of_le hz k3.size
          have HW3 : Hid (WordsAt w3 w.heap.size (doneW ws nm.data.toList ns q)) := Lib.hid (fun j z hz => k3.cell (HW.out j z hz))
          go_wp2_with fail
          go_roundw
          case rel =>
            have hs := WordsAt.set HW3.out HLEN.out (Lib.itoa x) ⟨_, a3⟩
            refine ⟨q + 1, if c' = 0 then off + u else off + u + 1, p', c', by omega, by go_num, by split <;> rfl, by omega, by omega, Lib.hid (by rw [HM2.out]; have := HP.out; omega), Lib.hid (fun h0 => by rw [HM2.out, if_neg (by omega)]; omega), Lib.hid (by rw [HNX.out]; exact hs), by simpa using hz3, Lib.hid (fun j hj => ?_), kr3.setCell (Nat.le_refl _) _⟩
            have hj2 : j < (doneW ws nm.data.toList ns q).length := by rw [doneW_len _ _ _ _ (by rw [HWL.out]; omega), HWL.out]; exact hj
            have := (k3.liv ⟨HW.out j _ (List.getElem?_eq_getElem hj2), HF.out j hj⟩).2
            simpa [go_sem] using this
          case measure => simp [intOf]; omega
        · have e1 : ((txt y).toList == (ByteArray.mk #[78]).toList) = false := (Lib.bytes_beq_false_iff _ _).2 (bytes_ne (b := [78]) y2)
          have e1' : ((txt y).toList == [78]) = false := by rw [Lib.toList_data]; simp [txt, y2]
          have HNX : Hid (doneW ws nm.data.toList ns (q + 1) = (doneW ws nm.data.toList ns q).set q y) := Lib.hid (doneW_next hy _ _ _ (by rw [fillW, if_neg y1, if_neg y2]; rfl))
          have HM2 : Hid (usedN (ws.take (q + 1)) = usedN (ws.take q)) := Lib.hid (by rw [HM.out, if_neg y2]; rfl)
          have HD := Lib.hid (doneW_here hy nm.data.toList ns)
          clear hy y1 y2
          go_wp2_with fail
          go_roundw
          case rel =>
            exact ⟨q + 1, o, p, c, by omega, by go_num, rfl, hpc, hcc, Lib.hid (by rw [HM2.out]; exact HP.out), Lib.hid (by rw [HM2.out]; exact HO.out), Lib.hid (by rw [HNX.out]; exact WordsAt.same HW.out HD.out), hz, HF, kr⟩
          case measure => simp [intOf]; omega
    · obtain rfl : q = m := by omega
      have HE : Hid (doneW ws nm.data.toList ns q = fillW ws nm.data.toList ns) := Lib.hid (by have h := doneW_all ws nm.data.toList ns; rw [HWL.out] at h; exact h)
      have HL : Hid ((fillW ws nm.data.toList ns).length = q) := Lib.hid (by rw [fillW_length, HWL.out])
      obtain ⟨xs, hxs⟩ : ∃ xs, xs = (fillW ws nm.data.toList ns).map txt := ⟨_, rfl⟩
      have hxl : xs.length = q := by rw [hxs, List.length_map, HL.out]
      have hxd : xs.map (·.data.toList) = fillW ws nm.data.toList ns := by
        rw [hxs, List.map_map]
        refine List.map_id'' ?_ _
        intro z
        simp [txt]
      have CJ := Lib.hid (Tryz.strings_Join w.heap.size 0 q xs ⟨#[32]⟩ wr (fun j x hx => by
        rw [hxs, List.getElem?_map, Option.map_eq_some_iff] at hx
        obtain ⟨z, hz, rfl⟩ := hx
        rw [Nat.zero_add]
        exact HW.out j z (by rw [HE.out]; exact hz)) hz (by omega) (by omega) (by rw [hxd]; exact HSZ.out))
      rw [hxl, hxd] at CJ
      clear hxl hxd hxs HW HE
      go_wp2_with fail
      refine CJ.out.mono ?_
      rintro e3 w3 ⟨rfl, k3⟩
      go_wp2_with fail
      go_ret
      exact ⟨rfl, kr.trans k3⟩

end Go.Proofs.YtmolpkjdjkhnpabGreatDoor

/-
  KindLine and TerrainLine of the reference: the line of a kind or terrain of valid rules, or nothing.
-/
namespace Go.Proofs.YtmolpkjdjkhnpabGreatDoor
open Go.RowKit

def inL (i : Int) (n : Nat) : Bool := decide (0 ≤ i) && decide (i < n)
def klB (ok : Bool) (m : List Knd) (i : Int) : Bool := ok && inL i m.length
def klT (ok : Bool) (m : List Knd) (i : Int) : ByteArray := if klB ok m i = true then (match m[i.toNat]? with | some k => txt (kindTx k) | none => ⟨#[]⟩) else ⟨#[]⟩
def tlB (ok : Bool) (l : List Ter) (i : Int) : Bool := ok && inL i l.length
def tlT (ok : Bool) (l : List Ter) (i : Int) : ByteArray := if tlB ok l i = true then (match l[i.toNat]? with | some t => txt (terTx t) | none => ⟨#[]⟩) else ⟨#[]⟩
theorem klT_no {ok : Bool} {m : List Knd} {i : Int} (h : klB ok m i = false) : klT ok m i = ⟨#[]⟩ := by unfold klT; rw [h]; rfl
theorem klT_yes {ok : Bool} {m : List Knd} {q : Nat} {k : Knd} (h : klB ok m q = true) (hk : m[q]? = some k) : klT ok m q = txt (kindTx k) := by unfold klT; rw [h, Int.toNat_natCast, hk]; rfl
theorem tlT_no {ok : Bool} {m : List Ter} {i : Int} (h : tlB ok m i = false) : tlT ok m i = ⟨#[]⟩ := by unfold tlT; rw [h]; rfl
theorem tlT_yes {ok : Bool} {m : List Ter} {q : Nat} {k : Ter} (h : tlB ok m q = true) (hk : m[q]? = some k) : tlT ok m q = txt (terTx k) := by unfold tlT; rw [h, Int.toNat_natCast, hk]; rfl
theorem ret_sb {a b : ByteArray} {x y : Bool} (h : a = b) (h' : x = y) : Ending.returned (.tuple #[.string a, .bool x]) = .returned (.tuple #[.string b, .bool y]) := by rw [h, h']

end Go.Proofs.YtmolpkjdjkhnpabGreatDoor

/-
  KindLine of the program: the line of a kind of valid rules, or nothing. The named variables hold what the program's text lays.
-/
namespace Go.Proofs.YtmolpkjdjkhnpabGreatDoor
open Go.RowKit

theorem itoa_small (x : Int) (w : World) (h0 : 0 ≤ x) (h1 : x < 100) :
    Calls Tryz.prog 70 #[.int .i64 x] w fun e w' => e = .returned (.string (txt (Lib.itoa x))) ∧ Kp w w' := by
  obtain ⟨k, rfl⟩ : ∃ k : Nat, x = k := ⟨x.toNat, by omega⟩
  refine (Tryz.strconv_Itoa_small k (by omega) w).mono fun e w' h => ⟨?_, by rw [h.2]; exact Kp.refl _⟩
  rw [h.1, itoa_pos h0, Int.toNat_natCast]
  rfl

set_option maxRecDepth 100000 in
set_option maxHeartbeats 4000000 in
theorem kindLine_any (nm : ByteArray) (a b c v : Nat) (z : Bool) (w : World) (hn : nm.size ≤ 8) (ha : a < 100) (hb : b < 100) (hc : c < 100) (hv : v < 100) :
    Calls Tryz.prog 36 #[kv nm a b c z v] w fun e w' => e = .returned (.string (txt (kindTx ⟨nm, a, b, c, z, v⟩))) ∧ Kp w w' := by
  have hlen := kindTx_len ⟨nm, a, b, c, z, v⟩ hn (by simp only; omega) (by simp only; omega) (by simp only; omega) (by simp only; omega)
  have htx := kind_tx ⟨nm, a, b, c, z, v⟩ (by simp only; omega) (by simp only; omega) (by simp only; omega) (by simp only; omega)
  simp only at hlen htx
  have hjl : (Lib.join (fillW kindWs nm.data.toList [(a : Int), b, c, v]) [32]).length ≤ 64 := by
    rw [htx, List.length_append] at hlen
    omega
  have KB : Kp w ((w.alloc (.cells #[.string nm, .int .i64 (a : Int), .int .i64 (b : Int), .int .i64 (c : Int), .bool z, .int .i64 (v : Int)] 82)).alloc (.cells #[.int .i64 (a : Int), .int .i64 (b : Int), .int .i64 (c : Int), .int .i64 (v : Int)] 3)) := ((Kp.refl w).alloc _).alloc _
  have CF := Lib.hid (filledForm_any (ByteArray.mk #[107, 105, 110, 100, 32, 78, 65, 77, 69, 32, 115, 116, 114, 101, 110, 103, 116, 104, 32, 78, 32, 109, 111, 118, 101, 115, 32, 78, 32, 115, 116, 101, 112, 115, 32, 78, 32, 118, 105, 101, 119, 32, 78]) nm [107, 105, 110, 100] [[78, 65, 77, 69], [115, 116, 114, 101, 110, 103, 116, 104], [78], [109, 111, 118, 101, 115], [78], [115, 116, 101, 112, 115], [78], [118, 105, 101, 119], [78]] [(a : Int), b, c, v] (w.heap.size + 1) 0 4 4 ((w.alloc (.cells #[.string nm, .int .i64 (a : Int), .int .i64 (b : Int), .int .i64 (c : Int), .bool z, .int .i64 (v : Int)] 82)).alloc (.cells #[.int .i64 (a : Int), .int .i64 (b : Int), .int .i64 (c : Int), .int .i64 (v : Int)] 3))
    (by decide) (by rfl) (by decide) (by decide) rfl (Nat.le_refl _) (by decide) (by decide)
    (fun i x hx => by
      match i, hx with
      | 0, hx => simp only [List.getElem?_cons_zero, Option.some.injEq] at hx; subst hx; simp [go_sem]
      | 1, hx => simp only [List.getElem?_cons_zero, List.getElem?_cons_succ, Option.some.injEq] at hx; subst hx; simp [go_sem]
      | 2, hx => simp only [List.getElem?_cons_zero, List.getElem?_cons_succ, Option.some.injEq] at hx; subst hx; simp [go_sem]
      | 3, hx => simp only [List.getElem?_cons_zero, List.getElem?_cons_succ, Option.some.injEq] at hx; subst hx; simp [go_sem]
      | i + 4, hx => simp at hx)
    (fun x hx w' _ => itoa_small x w' (by simp only [List.mem_cons, List.not_mem_nil, or_false] at hx; omega) (by simp only [List.mem_cons, List.not_mem_nil, or_false] at hx; omega))
    (Nat.le_trans hjl (by decide)))
  have HT := Lib.hid htx
  obtain ⟨J, hJ⟩ : ∃ J, J = Lib.join (fillW kindWs nm.data.toList [(a : Int), b, c, v]) [32] := ⟨_, rfl⟩
  have CF2 : Hid (Calls Tryz.prog 72 #[.string (ByteArray.mk #[107, 105, 110, 100, 32, 78, 65, 77, 69, 32, 115, 116, 114, 101, 110, 103, 116, 104, 32, 78, 32, 109, 111, 118, 101, 115, 32, 78, 32, 115, 116, 101, 112, 115, 32, 78, 32, 118, 105, 101, 119, 32, 78]), .string nm, .slice (some ⟨w.heap.size + 1, 0, none⟩) 4 4] ((w.alloc (.cells #[.string nm, .int .i64 (a : Int), .int .i64 (b : Int), .int .i64 (c : Int), .bool z, .int .i64 (v : Int)] 82)).alloc (.cells #[.int .i64 (a : Int), .int .i64 (b : Int), .int .i64 (c : Int), .int .i64 (v : Int)] 3)) fun e w' => e = .returned (.string (txt J)) ∧ Kp ((w.alloc (.cells #[.string nm, .int .i64 (a : Int), .int .i64 (b : Int), .int .i64 (c : Int), .bool z, .int .i64 (v : Int)] 82)).alloc (.cells #[.int .i64 (a : Int), .int .i64 (b : Int), .int .i64 (c : Int), .int .i64 (v : Int)] 3)) w') := Lib.hid (by rw [hJ]; exact CF.out)
  rw [← hJ] at HT hjl
  have s4 : ((w.alloc (.cells #[.string nm, .int .i64 (a : Int), .int .i64 (b : Int), .int .i64 (c : Int), .bool z, .int .i64 (v : Int)] 82)).alloc (.cells #[.int .i64 (a : Int), .int .i64 (b : Int), .int .i64 (c : Int), .int .i64 (v : Int)] 3)).cell? ⟨w.heap.size, 4, none⟩ = some (.bool z) := by simp [go_sem]
  have hz : (txt J).size ≤ 64 := by rw [txt_size]; exact hjl
  have y1 : ¬ 9223372036854775807 < (txt J).size + 5 := by omega
  clear hlen htx CF hJ hjl
  go_enter Tryz.func36, Tryz.ntmps36
  go_wp2_with fail
  refine CF2.out.mono ?_
  rintro e1 w1 ⟨rfl, k1⟩
  have s5 := k1.cell s4
  have K1 := KB.trans k1
  clear CF2 s4 k1 KB
  cases z
  · have HT2 : Hid (txt J = txt (kindTx ⟨nm, a, b, c, false, v⟩)) := Lib.hid (by rw [HT.out]; simp)
    go_wp2_with fail
    go_ret
    exact ⟨ret_str HT2.out, K1⟩
  · have HT2 : Hid (txt J ++ ByteArray.mk #[32, 122, 111, 110, 101] = txt (kindTx ⟨nm, a, b, c, true, v⟩)) := Lib.hid (by rw [HT.out, show ByteArray.mk #[32, 122, 111, 110, 101] = txt [32, 122, 111, 110, 101] from rfl, txt_app]; rfl)
    go_wp2_with fail
    go_ret
    exact ⟨ret_str HT2.out, K1⟩

end Go.Proofs.YtmolpkjdjkhnpabGreatDoor

/-
  slices.Concat of two lists of integers: a list of the call's own that holds both. Nothing that was there is changed.
-/
namespace Go.Proofs.YtmolpkjdjkhnpabGreatDoor
open Go.RowKit

theorem infoIntC : (Tryz.prog.info? 3).map (fun i => (i.zero, i.size, i.bytes)) = some (some (.int .i64 0), 1, 8) := by kernel_rfl

set_option maxRecDepth 100000 in
set_option maxHeartbeats 4000000 in
theorem grow_nil (n : Nat) (w : World) (h0 : 0 < n) (hn : n ≤ 1000000) :
    Calls Tryz.prog 91 #[.slice none 0 0, .int .i64 (n : Int)] w fun e w' => ∃ v, e = .returned v ∧ w'.ownsRow w.heap.size 3 1 v 0 [] ∧ v ≠ .slice none 0 0 ∧ Kp w w' := by
  obtain ⟨j0, hj0, hz0, hs0, hb0⟩ := info_parts infoIntC
  have hr := Lib.run_append_nil_zeros (P := Tryz.prog) w 26 3 26 3 j0 (.int .i64 0) .i64 .i64 Tryz.underlying26 Tryz.underlying3 hj0 hz0 n h0 (by rw [hs0]; decide) (by omega) (by rw [hb0]; omega)
  have hcap := grownCap_ge w n 0 3
  have hcap2 := grownCap_le_maxLen w n 0 3 (by simp only [maxLen]; omega)
  obtain ⟨cp, hcp⟩ : ∃ cp, grownCap w n 0 3 = cp := ⟨_, rfl⟩
  rw [hcp] at hr hcap hcap2
  obtain ⟨cur, hcur⟩ : ∃ cur, cur = Builtin.zeroCells (Value.int .i64 0).cells n ++ Builtin.zeroCells (Value.int .i64 0).cells (cp - n) := ⟨_, rfl⟩
  have hsz : cur.size = cp := by
    rw [hcur, Array.size_append, size_zeroCells, size_zeroCells]
    have : (Value.int .i64 0).cells.size = 1 := rfl
    rw [this]
    omega
  rw [← hcur] at hr
  have HR := Lib.hid hr
  have h1 : (0 : Int) < (n : Int) := by omega
  have h2 : ¬ (n : Int) < 0 := by omega
  have hcap3 : cp ≤ 9223372036854775807 := by unfold maxLen at hcap2; omega
  clear hcur hr hcp
  go_enter Tryz.func91, Tryz.ntmps91
  go_wp2_with (at_builtin; refine Lib.wpList_append_run _ rfl _ _ _ _ rfl _ _ rfl rfl _ _ HR.out ?_)
  go_ret
  refine ⟨_, rfl, ⟨rfl, .inr ⟨w.heap.size, cp, cur, rfl, Nat.le_refl _, ?_, Nat.zero_le _, hcap2, by omega, rfl⟩⟩, by simp, (Kp.refl w).drew.alloc _⟩
  exact Array.getElem?_push_size

theorem flat_more {rs : List (List Int)} {q : Nat} {r : List Int} (h : rs[q]? = some r) : (rs.take (q + 1)).flatten = (rs.take q).flatten ++ r := by
  rw [List.take_add_one, h]
  simp
theorem flat_le (rs : List (List Int)) (q : Nat) : (rs.take q).flatten.length ≤ rs.flatten.length := by
  have e : rs.flatten = (rs.take q).flatten ++ (rs.drop q).flatten := by rw [← List.flatten_append, List.take_append_drop]
  rw [e, List.length_append]
  omega

set_option maxRecDepth 100000 in
set_option maxHeartbeats 4000000 in
theorem concat_any (B o n c : Nat) (vs : List Value) (rs : List (List Int)) (w : World) (hv : ∀ (j : Nat) u, vs[j]? = some u → w.cell? ⟨B, o + j, none⟩ = some u) (hn : vs.length = n) (hr : rs.length = n) (hI : ∀ (j : Nat) u r, vs[j]? = some u → rs[j]? = some r → RdI w u r) (hne : ∀ r ∈ rs, 0 < r.length) (hlen : rs.flatten.length ≤ 100000) (h0 : 0 < rs.flatten.length) (hn2 : n ≤ 100000) :
    Calls Tryz.prog 73 #[.slice (some ⟨B, o, none⟩) n c] w fun e w' => ∃ v, e = .returned v ∧ OwnI w' w.heap.size v rs.flatten ∧ Kp w w' := by
  obtain ⟨j0, hj0, hz0, hs0, hb0⟩ := info_parts infoIntC
  have HV := Lib.hid hv
  have HN := Lib.hid hn
  have HR := Lib.hid hr
  have HI := Lib.hid hI
  have HNE := Lib.hid hne
  have HFL := Lib.hid (flat_le rs)
  obtain ⟨T, hT⟩ : ∃ T, rs.flatten.length = T := ⟨_, rfl⟩
  have HT := Lib.hid hT
  rw [hT] at hlen h0
  clear hv hn hr hI hne hT
  go_enter Tryz.func73, Tryz.ntmps73
  go_wp2_with fail
  go_loop [3, 5, 11] (fun sz _ i => ∃ q k : Nat, q ≤ n ∧ i = .int .i64 q ∧ sz = .int .i64 k ∧ Hid ((rs.take q).flatten.length = k)) (fun _ _ i => n - (intOf i).toNat)
  case atStart => exact ⟨0, 0, by omega, rfl, rfl, Lib.hid (by simp)⟩
  case round =>
    obtain ⟨q, k, hq, rfl, rfl, HK⟩ := hrel
    have hk : k ≤ 100000 := by have h1 := HFL.out q; rw [HK.out, HT.out] at h1; omega
    by_cases hlt : q < n
    · have hlt' : (q : Int) < n := by omega
      obtain ⟨r, hr⟩ : ∃ r, rs[q]? = some r := ⟨rs[q]'(by have := HR.out; omega), List.getElem?_eq_getElem _⟩
      obtain ⟨u, hu⟩ : ∃ u, vs[q]? = some u := ⟨vs[q]'(by have := HN.out; omega), List.getElem?_eq_getElem _⟩
      have a0 := HV.out q u hu
      obtain ⟨A, cr, rfl, _⟩ := HI.out q u r hu hr
      have HM : Hid ((rs.take (q + 1)).flatten.length = k + r.length) := Lib.hid (by rw [flat_more hr, List.length_append, HK.out])
      have hk2 : k + r.length ≤ 100000 := by have h1 := HFL.out (q + 1); rw [HM.out, HT.out] at h1; omega
      have hneg : ¬ (k : Int) + (r.length : Int) < 0 := by omega
      clear hr hu HK
      generalize r.length = rl at *
      go_wp2_with fail
      go_round
      case rel => exact ⟨q + 1, k + rl, by omega, by go_num, by go_num, HM⟩
      case measure => simp [intOf]; omega
    · obtain rfl : q = n := by omega
      obtain rfl : k = T := by
        have h1 := HK.out
        rw [List.take_of_length_le (by rw [HR.out]; omega)] at h1
        rw [← HT.out, ← h1]
      have CG := Lib.hid (fun w => grow_nil k w h0 (by omega))
      clear HK
      go_wp2_with fail
      refine (CG.out _).mono ?_
      rintro e1 w1 ⟨v1, rfl, o1, _, k1⟩
      have O1 : Hid (w1.ownsRow w.heap.size 3 1 v1 (rs.take 0).flatten.length (cellsI (rs.take 0).flatten)) := Lib.hid (by simpa [cellsI] using o1)
      clear o1
      go_wp2_with fail
      go_loopw [6, 8, 27] (fun v _ i wr => ∃ p : Nat, p ≤ q ∧ i = .int .i64 p ∧ Hid (wr.ownsRow w.heap.size 3 1 v (rs.take p).flatten.length (cellsI (rs.take p).flatten)) ∧ Kp w wr) (fun _ _ i _ => q - (intOf i).toNat)
      case atStart => exact ⟨0, by omega, rfl, O1, k1⟩
      case round =>
        clear O1 k1
        obtain ⟨p, hp, rfl, HO, kr⟩ := hrel
        have hz := kr.size
        by_cases hlp : p < q
        · have hlp' : (p : Int) < q := by omega
          obtain ⟨r, hr⟩ : ∃ r, rs[p]? = some r := ⟨rs[p]'(by have := HR.out; omega), List.getElem?_eq_getElem _⟩
          obtain ⟨u, hu⟩ : ∃ u, vs[p]? = some u := ⟨vs[p]'(by have := HN.out; omega), List.getElem?_eq_getElem _⟩
          have a0 := kr.cell (HV.out p u hu)
          obtain ⟨A, cr, rfl, hA⟩ := HI.out p u r hu hr
          obtain ⟨g, off, rfl, hc⟩ := hA (HNE.out r (List.mem_of_getElem? hr))
          have HNW : Hid (∀ (j : Nat) u, (cellsI r)[j]? = some u → wr.cell? ((⟨g, off, none⟩ : Addr).add j) = some u) := Lib.hid (fun j u hj => by
            simp only [cellsI, List.getElem?_map, Option.map_eq_some_iff] at hj
            obtain ⟨x, hx, rfl⟩ := hj
            have e : (⟨g, off, none⟩ : Addr).add j = ⟨g, off + j, none⟩ := Addr.add_lit ..
            rw [e]
            exact kr.cell (hc j x hx))
          have HM := Lib.hid (flat_more hr)
          have HB1 : Hid ((rs.take p).flatten.length + r.length ≤ 100000) := Lib.hid (by have h1 := HFL.out (p + 1); rw [HM.out, List.length_append, HT.out] at h1; omega)
          clear hr hu hc hA
          go_wp2_with (at_builtin; refine wpList_append_own_at _ rfl (.tmp 31) (.tmp 32) 26 rfl w.heap.size 3 j0 (.int .i64 0) 1 8 Tryz.underlying26 hj0 hz0 hs0 hb0 rfl (by decide) _ _ _ rfl HO.out ⟨g, off, none⟩ r.length cr (cellsI r) rfl (by simp [cellsI]) HNW.out (by intro u hu; obtain ⟨x, _, rfl⟩ := List.mem_map.1 hu; rfl) (by have := HB1.out; simp only [maxLen]; omega) (by have := HB1.out; omega) hz ?_; intro v1 w3 hown2 hgrow2 hnil2 hat2; clear hnil2 hat2; have O3 : Hid (w3.ownsRow w.heap.size 3 1 v1 (rs.take (p + 1)).flatten.length (cellsI (rs.take (p + 1)).flatten)) := Lib.hid (by rw [HM.out, List.length_append]; simpa [cellsI] using hown2); have K3 : Kp w w3 := kr.grown hgrow2 (fun k e => (World.ownsRow.lt HO.out k e).1); clear hown2 hgrow2)
          go_roundw
          case rel => exact ⟨p + 1, by omega, by go_num, O3, K3⟩
          case measure => simp [intOf]; omega
        · obtain rfl : p = q := by omega
          have HE : Hid (OwnI wr w.heap.size _ rs.flatten) := Lib.hid (by
            have h1 := HO.out
            rw [List.take_of_length_le (by rw [HR.out]; omega)] at h1
            exact h1)
          clear HO
          go_wp2_with fail
          go_ret
          exact ⟨_, rfl, HE.out, kr⟩

theorem row_shape1 {w : World} {base : Nat} {v : Value} {l : List Int} (h : OwnI w base v l) (h0 : 0 < l.length) :
    ∃ g cap, v = .slice (some ⟨g, 0, none⟩) l.length cap ∧ l.length ≤ cap ∧ cap ≤ 9223372036854775807 ∧ base ≤ g := by
  rcases h.2 with ⟨_, h1⟩ | ⟨g, cap, cur, e1, h2, _, h3, h4, _⟩
  · omega
  · exact ⟨g, cap, e1, h3, by unfold maxLen at h4; omega, h2⟩

end Go.Proofs.YtmolpkjdjkhnpabGreatDoor

/-
  What the rows of the laws on texts say of the named variables, cell by cell; a world for the witness in which they lie.
-/
namespace Go.Proofs.YtmolpkjdjkhnpabGreatDoor
open Go.ChangeShapes Go.WideShapes Go.ChangeAt Go.RowKit Go.Joins

theorem pow10G : Tryz.prog.globalNamed "internal/strconv.uint64pow10" = some 17 := by kernel_rfl
theorem pow10Ty : (Tryz.prog.globals[17]?).map (·.type) = some 173 := by kernel_rfl
/-- The table of powers of ten, as its text lays it. -/
def PowAt (w : World) : Prop := Lib.TabIs Tryz.prog w "internal/strconv.uint64pow10" .u64 Lib.pow10Tab
theorem pow_of {W : World} (h : ∃ g t cs fuel p, Tryz.prog.globalNamed "internal/strconv.uint64pow10" = some g ∧ (Tryz.prog.globals[g]?).map (·.type) = some t ∧ W.var? Tryz.prog "internal/strconv.uint64pow10" = some cs ∧ DataW.trod (fun _ => ()) Tryz.prog W 0 (fun _ => true) false fuel t cs.toList = some (Rows.laid_internal_strconv_uint64pow10, p)) : PowAt W := by
  obtain ⟨g', t', cs, fuel, p, hg', ht', hvar, hd⟩ := h
  obtain rfl := Option.some.inj (pow10G.symm.trans hg')
  obtain rfl := Option.some.inj (pow10Ty.symm.trans ht')
  have hd' : DataW.trod (fun _ => ()) Tryz.prog W 0 (fun _ => true) false fuel 173 cs.toList = some (Lib.tabData .u64 Lib.pow10Tab, p) := hd
  show Lib.TabIs _ _ _ _ _
  unfold Lib.TabIs
  rw [hvar, ← Lib.cells_of_tab Tryz.underlying173 Tryz.underlying152 (by kernel_rfl) (by kernel_rfl) hd']
theorem PowAt.keep {w w' : World} (h : PowAt w) (k : Kp w w') : PowAt w' := by
  have hc := World.var?_cell pow10G h 0
  exact var?_below k pow10G (cell_lt (v := .int .u64 1) (hc.trans rfl)) h

def datCells (d : DataW Unit) : Array Value := match d with | .agg xs => (xs.map fun x => match x with | .lit (.int k n) => Value.int k n | _ => undef).toArray | _ => #[]

theorem boardText_sp {W : World} (h : laidMetH Tryz.prog [("math/bits.deBruijn32tab", Rows.laid_math_bits_deBruijn32tab), ("math/bits.deBruijn64tab", Rows.laid_math_bits_deBruijn64tab), ("internal/strconv.uint64pow10", Rows.laid_internal_strconv_uint64pow10), ("unicode/utf8.acceptRanges", Rows.laid_unicode_utf8_acceptRanges), ("loop.example/g00886/impl.directionSteps", Rows.laid_loop_example_g00886_impl_directionSteps), ("loop.example/g00886/impl.edgeListNames", Rows.laid_loop_example_g00886_impl_edgeListNames), ("loop.example/g00886/impl.terrainsSpan", Rows.laid_loop_example_g00886_impl_terrainsSpan), ("loop.example/g00886/impl.costSpan", Rows.laid_loop_example_g00886_impl_costSpan), ("loop.example/g00886/impl.shiftSpan", Rows.laid_loop_example_g00886_impl_shiftSpan), ("loop.example/g00886/impl.heightSpan", Rows.laid_loop_example_g00886_impl_heightSpan), ("loop.example/g00886/impl.kindsSpan", Rows.laid_loop_example_g00886_impl_kindsSpan), ("loop.example/g00886/impl.strengthSpan", Rows.laid_loop_example_g00886_impl_strengthSpan), ("loop.example/g00886/impl.movesSpan", Rows.laid_loop_example_g00886_impl_movesSpan), ("loop.example/g00886/impl.stepsSpan", Rows.laid_loop_example_g00886_impl_stepsSpan), ("loop.example/g00886/impl.viewSpan", Rows.laid_loop_example_g00886_impl_viewSpan), ("loop.example/g00886/impl.stackSpan", Rows.laid_loop_example_g00886_impl_stackSpan), ("loop.example/g00886/impl.riverSpan", Rows.laid_loop_example_g00886_impl_riverSpan), ("loop.example/g00886/impl.roadSpan", Rows.laid_loop_example_g00886_impl_roadSpan), ("loop.example/g00886/impl.supplySpan", Rows.laid_loop_example_g00886_impl_supplySpan), ("loop.example/g00886/impl.turnsSpan", Rows.laid_loop_example_g00886_impl_turnsSpan), ("loop.example/g00886/impl.limitNames", Rows.laid_loop_example_g00886_impl_limitNames), ("unicode/utf8.first", Rows.laid_unicode_utf8_first)] W) : Spans W := by
  have h' : laidMet Tryz.prog [("math/bits.deBruijn32tab", Rows.laid_math_bits_deBruijn32tab), ("math/bits.deBruijn64tab", Rows.laid_math_bits_deBruijn64tab), ("internal/strconv.uint64pow10", Rows.laid_internal_strconv_uint64pow10), ("unicode/utf8.acceptRanges", Rows.laid_unicode_utf8_acceptRanges), ("loop.example/g00886/impl.directionSteps", Rows.laid_loop_example_g00886_impl_directionSteps), ("loop.example/g00886/impl.edgeListNames", Rows.laid_loop_example_g00886_impl_edgeListNames), ("loop.example/g00886/impl.terrainsSpan", Rows.laid_loop_example_g00886_impl_terrainsSpan), ("loop.example/g00886/impl.costSpan", Rows.laid_loop_example_g00886_impl_costSpan), ("loop.example/g00886/impl.shiftSpan", Rows.laid_loop_example_g00886_impl_shiftSpan), ("loop.example/g00886/impl.heightSpan", Rows.laid_loop_example_g00886_impl_heightSpan), ("loop.example/g00886/impl.kindsSpan", Rows.laid_loop_example_g00886_impl_kindsSpan), ("loop.example/g00886/impl.strengthSpan", Rows.laid_loop_example_g00886_impl_strengthSpan), ("loop.example/g00886/impl.movesSpan", Rows.laid_loop_example_g00886_impl_movesSpan), ("loop.example/g00886/impl.stepsSpan", Rows.laid_loop_example_g00886_impl_stepsSpan), ("loop.example/g00886/impl.viewSpan", Rows.laid_loop_example_g00886_impl_viewSpan), ("loop.example/g00886/impl.stackSpan", Rows.laid_loop_example_g00886_impl_stackSpan), ("loop.example/g00886/impl.riverSpan", Rows.laid_loop_example_g00886_impl_riverSpan), ("loop.example/g00886/impl.roadSpan", Rows.laid_loop_example_g00886_impl_roadSpan), ("loop.example/g00886/impl.supplySpan", Rows.laid_loop_example_g00886_impl_supplySpan), ("loop.example/g00886/impl.turnsSpan", Rows.laid_loop_example_g00886_impl_turnsSpan), ("loop.example/g00886/impl.limitNames", Rows.laid_loop_example_g00886_impl_limitNames), ("unicode/utf8.first", Rows.laid_unicode_utf8_first)] W := h
  obtain ⟨ps, hl, _⟩ := h'
  exact ⟨span_of terrainsG terrainsTy (laid_one hl (.tail _ (.tail _ (.tail _ (.tail _ (.tail _ (.tail _ (.head _)))))))), span_of costG costTy (laid_one hl (.tail _ (.tail _ (.tail _ (.tail _ (.tail _ (.tail _ (.tail _ (.head _))))))))), span_of shiftG shiftTy (laid_one hl (.tail _ (.tail _ (.tail _ (.tail _ (.tail _ (.tail _ (.tail _ (.tail _ (.head _)))))))))), span_of heightG heightTy (laid_one hl (.tail _ (.tail _ (.tail _ (.tail _ (.tail _ (.tail _ (.tail _ (.tail _ (.tail _ (.head _))))))))))), span_of kindsG kindsTy (laid_one hl (.tail _ (.tail _ (.tail _ (.tail _ (.tail _ (.tail _ (.tail _ (.tail _ (.tail _ (.tail _ (.head _)))))))))))), span_of strengthG strengthTy (laid_one hl (.tail _ (.tail _ (.tail _ (.tail _ (.tail _ (.tail _ (.tail _ (.tail _ (.tail _ (.tail _ (.tail _ (.head _))))))))))))), span_of movesG movesTy (laid_one hl (.tail _ (.tail _ (.tail _ (.tail _ (.tail _ (.tail _ (.tail _ (.tail _ (.tail _ (.tail _ (.tail _ (.tail _ (.head _)))))))))))))), span_of stepsG stepsTy (laid_one hl (.tail _ (.tail _ (.tail _ (.tail _ (.tail _ (.tail _ (.tail _ (.tail _ (.tail _ (.tail _ (.tail _ (.tail _ (.tail _ (.head _))))))))))))))), span_of viewG viewTy (laid_one hl (.tail _ (.tail _ (.tail _ (.tail _ (.tail _ (.tail _ (.tail _ (.tail _ (.tail _ (.tail _ (.tail _ (.tail _ (.tail _ (.tail _ (.head _)))))))))))))))), span_of stackG stackTy (laid_one hl (.tail _ (.tail _ (.tail _ (.tail _ (.tail _ (.tail _ (.tail _ (.tail _ (.tail _ (.tail _ (.tail _ (.tail _ (.tail _ (.tail _ (.tail _ (.head _))))))))))))))))), span_of riverG riverTy (laid_one hl (.tail _ (.tail _ (.tail _ (.tail _ (.tail _ (.tail _ (.tail _ (.tail _ (.tail _ (.tail _ (.tail _ (.tail _ (.tail _ (.tail _ (.tail _ (.tail _ (.head _)))))))))))))))))), span_of roadG roadTy (laid_one hl (.tail _ (.tail _ (.tail _ (.tail _ (.tail _ (.tail _ (.tail _ (.tail _ (.tail _ (.tail _ (.tail _ (.tail _ (.tail _ (.tail _ (.tail _ (.tail _ (.tail _ (.head _))))))))))))))))))), span_of supplyG supplyTy (laid_one hl (.tail _ (.tail _ (.tail _ (.tail _ (.tail _ (.tail _ (.tail _ (.tail _ (.tail _ (.tail _ (.tail _ (.tail _ (.tail _ (.tail _ (.tail _ (.tail _ (.tail _ (.tail _ (.head _)))))))))))))))))))), span_of turnsG turnsTy (laid_one hl (.tail _ (.tail _ (.tail _ (.tail _ (.tail _ (.tail _ (.tail _ (.tail _ (.tail _ (.tail _ (.tail _ (.tail _ (.tail _ (.tail _ (.tail _ (.tail _ (.tail _ (.tail _ (.tail _ (.head _)))))))))))))))))))))⟩

theorem boardText_pow {W : World} (h : laidMetH Tryz.prog [("math/bits.deBruijn32tab", Rows.laid_math_bits_deBruijn32tab), ("math/bits.deBruijn64tab", Rows.laid_math_bits_deBruijn64tab), ("internal/strconv.uint64pow10", Rows.laid_internal_strconv_uint64pow10), ("unicode/utf8.acceptRanges", Rows.laid_unicode_utf8_acceptRanges), ("loop.example/g00886/impl.directionSteps", Rows.laid_loop_example_g00886_impl_directionSteps), ("loop.example/g00886/impl.edgeListNames", Rows.laid_loop_example_g00886_impl_edgeListNames), ("loop.example/g00886/impl.terrainsSpan", Rows.laid_loop_example_g00886_impl_terrainsSpan), ("loop.example/g00886/impl.costSpan", Rows.laid_loop_example_g00886_impl_costSpan), ("loop.example/g00886/impl.shiftSpan", Rows.laid_loop_example_g00886_impl_shiftSpan), ("loop.example/g00886/impl.heightSpan", Rows.laid_loop_example_g00886_impl_heightSpan), ("loop.example/g00886/impl.kindsSpan", Rows.laid_loop_example_g00886_impl_kindsSpan), ("loop.example/g00886/impl.strengthSpan", Rows.laid_loop_example_g00886_impl_strengthSpan), ("loop.example/g00886/impl.movesSpan", Rows.laid_loop_example_g00886_impl_movesSpan), ("loop.example/g00886/impl.stepsSpan", Rows.laid_loop_example_g00886_impl_stepsSpan), ("loop.example/g00886/impl.viewSpan", Rows.laid_loop_example_g00886_impl_viewSpan), ("loop.example/g00886/impl.stackSpan", Rows.laid_loop_example_g00886_impl_stackSpan), ("loop.example/g00886/impl.riverSpan", Rows.laid_loop_example_g00886_impl_riverSpan), ("loop.example/g00886/impl.roadSpan", Rows.laid_loop_example_g00886_impl_roadSpan), ("loop.example/g00886/impl.supplySpan", Rows.laid_loop_example_g00886_impl_supplySpan), ("loop.example/g00886/impl.turnsSpan", Rows.laid_loop_example_g00886_impl_turnsSpan), ("loop.example/g00886/impl.limitNames", Rows.laid_loop_example_g00886_impl_limitNames), ("unicode/utf8.first", Rows.laid_unicode_utf8_first)] W) : PowAt W := by
  have h' : laidMet Tryz.prog [("math/bits.deBruijn32tab", Rows.laid_math_bits_deBruijn32tab), ("math/bits.deBruijn64tab", Rows.laid_math_bits_deBruijn64tab), ("internal/strconv.uint64pow10", Rows.laid_internal_strconv_uint64pow10), ("unicode/utf8.acceptRanges", Rows.laid_unicode_utf8_acceptRanges), ("loop.example/g00886/impl.directionSteps", Rows.laid_loop_example_g00886_impl_directionSteps), ("loop.example/g00886/impl.edgeListNames", Rows.laid_loop_example_g00886_impl_edgeListNames), ("loop.example/g00886/impl.terrainsSpan", Rows.laid_loop_example_g00886_impl_terrainsSpan), ("loop.example/g00886/impl.costSpan", Rows.laid_loop_example_g00886_impl_costSpan), ("loop.example/g00886/impl.shiftSpan", Rows.laid_loop_example_g00886_impl_shiftSpan), ("loop.example/g00886/impl.heightSpan", Rows.laid_loop_example_g00886_impl_heightSpan), ("loop.example/g00886/impl.kindsSpan", Rows.laid_loop_example_g00886_impl_kindsSpan), ("loop.example/g00886/impl.strengthSpan", Rows.laid_loop_example_g00886_impl_strengthSpan), ("loop.example/g00886/impl.movesSpan", Rows.laid_loop_example_g00886_impl_movesSpan), ("loop.example/g00886/impl.stepsSpan", Rows.laid_loop_example_g00886_impl_stepsSpan), ("loop.example/g00886/impl.viewSpan", Rows.laid_loop_example_g00886_impl_viewSpan), ("loop.example/g00886/impl.stackSpan", Rows.laid_loop_example_g00886_impl_stackSpan), ("loop.example/g00886/impl.riverSpan", Rows.laid_loop_example_g00886_impl_riverSpan), ("loop.example/g00886/impl.roadSpan", Rows.laid_loop_example_g00886_impl_roadSpan), ("loop.example/g00886/impl.supplySpan", Rows.laid_loop_example_g00886_impl_supplySpan), ("loop.example/g00886/impl.turnsSpan", Rows.laid_loop_example_g00886_impl_turnsSpan), ("loop.example/g00886/impl.limitNames", Rows.laid_loop_example_g00886_impl_limitNames), ("unicode/utf8.first", Rows.laid_unicode_utf8_first)] W := h
  obtain ⟨ps, hl, _⟩ := h'
  exact pow_of (laid_one hl (.tail _ (.tail _ (.head _))))

theorem boardText_tab {W : World} (h : laidMetH Tryz.prog [("math/bits.deBruijn32tab", Rows.laid_math_bits_deBruijn32tab), ("math/bits.deBruijn64tab", Rows.laid_math_bits_deBruijn64tab), ("internal/strconv.uint64pow10", Rows.laid_internal_strconv_uint64pow10), ("unicode/utf8.acceptRanges", Rows.laid_unicode_utf8_acceptRanges), ("loop.example/g00886/impl.directionSteps", Rows.laid_loop_example_g00886_impl_directionSteps), ("loop.example/g00886/impl.edgeListNames", Rows.laid_loop_example_g00886_impl_edgeListNames), ("loop.example/g00886/impl.terrainsSpan", Rows.laid_loop_example_g00886_impl_terrainsSpan), ("loop.example/g00886/impl.costSpan", Rows.laid_loop_example_g00886_impl_costSpan), ("loop.example/g00886/impl.shiftSpan", Rows.laid_loop_example_g00886_impl_shiftSpan), ("loop.example/g00886/impl.heightSpan", Rows.laid_loop_example_g00886_impl_heightSpan), ("loop.example/g00886/impl.kindsSpan", Rows.laid_loop_example_g00886_impl_kindsSpan), ("loop.example/g00886/impl.strengthSpan", Rows.laid_loop_example_g00886_impl_strengthSpan), ("loop.example/g00886/impl.movesSpan", Rows.laid_loop_example_g00886_impl_movesSpan), ("loop.example/g00886/impl.stepsSpan", Rows.laid_loop_example_g00886_impl_stepsSpan), ("loop.example/g00886/impl.viewSpan", Rows.laid_loop_example_g00886_impl_viewSpan), ("loop.example/g00886/impl.stackSpan", Rows.laid_loop_example_g00886_impl_stackSpan), ("loop.example/g00886/impl.riverSpan", Rows.laid_loop_example_g00886_impl_riverSpan), ("loop.example/g00886/impl.roadSpan", Rows.laid_loop_example_g00886_impl_roadSpan), ("loop.example/g00886/impl.supplySpan", Rows.laid_loop_example_g00886_impl_supplySpan), ("loop.example/g00886/impl.turnsSpan", Rows.laid_loop_example_g00886_impl_turnsSpan), ("loop.example/g00886/impl.limitNames", Rows.laid_loop_example_g00886_impl_limitNames), ("unicode/utf8.first", Rows.laid_unicode_utf8_first)] W) : Tab W := by
  have h' : laidMet Tryz.prog [("math/bits.deBruijn32tab", Rows.laid_math_bits_deBruijn32tab), ("math/bits.deBruijn64tab", Rows.laid_math_bits_deBruijn64tab), ("internal/strconv.uint64pow10", Rows.laid_internal_strconv_uint64pow10), ("unicode/utf8.acceptRanges", Rows.laid_unicode_utf8_acceptRanges), ("loop.example/g00886/impl.directionSteps", Rows.laid_loop_example_g00886_impl_directionSteps), ("loop.example/g00886/impl.edgeListNames", Rows.laid_loop_example_g00886_impl_edgeListNames), ("loop.example/g00886/impl.terrainsSpan", Rows.laid_loop_example_g00886_impl_terrainsSpan), ("loop.example/g00886/impl.costSpan", Rows.laid_loop_example_g00886_impl_costSpan), ("loop.example/g00886/impl.shiftSpan", Rows.laid_loop_example_g00886_impl_shiftSpan), ("loop.example/g00886/impl.heightSpan", Rows.laid_loop_example_g00886_impl_heightSpan), ("loop.example/g00886/impl.kindsSpan", Rows.laid_loop_example_g00886_impl_kindsSpan), ("loop.example/g00886/impl.strengthSpan", Rows.laid_loop_example_g00886_impl_strengthSpan), ("loop.example/g00886/impl.movesSpan", Rows.laid_loop_example_g00886_impl_movesSpan), ("loop.example/g00886/impl.stepsSpan", Rows.laid_loop_example_g00886_impl_stepsSpan), ("loop.example/g00886/impl.viewSpan", Rows.laid_loop_example_g00886_impl_viewSpan), ("loop.example/g00886/impl.stackSpan", Rows.laid_loop_example_g00886_impl_stackSpan), ("loop.example/g00886/impl.riverSpan", Rows.laid_loop_example_g00886_impl_riverSpan), ("loop.example/g00886/impl.roadSpan", Rows.laid_loop_example_g00886_impl_roadSpan), ("loop.example/g00886/impl.supplySpan", Rows.laid_loop_example_g00886_impl_supplySpan), ("loop.example/g00886/impl.turnsSpan", Rows.laid_loop_example_g00886_impl_turnsSpan), ("loop.example/g00886/impl.limitNames", Rows.laid_loop_example_g00886_impl_limitNames), ("unicode/utf8.first", Rows.laid_unicode_utf8_first)] W := h
  obtain ⟨ps, hl, _⟩ := h'
  exact tab_of_laid1 (laid_one hl (.tail _ (.tail _ (.tail _ (.tail _ (.head _))))))

noncomputable def laidWorldK (os : Os) : World :=
  (setVar (setVar (setVar (setVar (setVar (setVar (setVar (laidWorldS os) 19 #[(.int .u8 0), (.int .u8 1), (.int .u8 28), (.int .u8 2), (.int .u8 29), (.int .u8 14), (.int .u8 24), (.int .u8 3), (.int .u8 30), (.int .u8 22), (.int .u8 20), (.int .u8 15), (.int .u8 25), (.int .u8 17), (.int .u8 4), (.int .u8 8), (.int .u8 31), (.int .u8 27), (.int .u8 13), (.int .u8 23), (.int .u8 21), (.int .u8 19), (.int .u8 16), (.int .u8 7), (.int .u8 26), (.int .u8 12), (.int .u8 18), (.int .u8 6), (.int .u8 11), (.int .u8 5), (.int .u8 10), (.int .u8 9)]) 20 #[(.int .u8 0), (.int .u8 1), (.int .u8 56), (.int .u8 2), (.int .u8 57), (.int .u8 49), (.int .u8 28), (.int .u8 3), (.int .u8 61), (.int .u8 58), (.int .u8 42), (.int .u8 50), (.int .u8 38), (.int .u8 29), (.int .u8 17), (.int .u8 4), (.int .u8 62), (.int .u8 47), (.int .u8 59), (.int .u8 36), (.int .u8 45), (.int .u8 43), (.int .u8 51), (.int .u8 22), (.int .u8 53), (.int .u8 39), (.int .u8 33), (.int .u8 30), (.int .u8 24), (.int .u8 18), (.int .u8 12), (.int .u8 5), (.int .u8 63), (.int .u8 55), (.int .u8 48), (.int .u8 27), (.int .u8 60), (.int .u8 41), (.int .u8 37), (.int .u8 16), (.int .u8 46), (.int .u8 35), (.int .u8 44), (.int .u8 21), (.int .u8 52), (.int .u8 32), (.int .u8 23), (.int .u8 11), (.int .u8 54), (.int .u8 26), (.int .u8 40), (.int .u8 15), (.int .u8 34), (.int .u8 20), (.int .u8 31), (.int .u8 10), (.int .u8 25), (.int .u8 14), (.int .u8 19), (.int .u8 9), (.int .u8 13), (.int .u8 8), (.int .u8 7), (.int .u8 6)]) 17 #[(.int .u64 1), (.int .u64 10), (.int .u64 100), (.int .u64 1000), (.int .u64 10000), (.int .u64 100000), (.int .u64 1000000), (.int .u64 10000000), (.int .u64 100000000), (.int .u64 1000000000), (.int .u64 10000000000), (.int .u64 100000000000), (.int .u64 1000000000000), (.int .u64 10000000000000), (.int .u64 100000000000000), (.int .u64 1000000000000000), (.int .u64 10000000000000000), (.int .u64 100000000000000000), (.int .u64 1000000000000000000), (.int .u64 10000000000000000000)]) 22 #[(.int .u8 128), (.int .u8 191), (.int .u8 160), (.int .u8 191), (.int .u8 128), (.int .u8 159), (.int .u8 144), (.int .u8 191), (.int .u8 128), (.int .u8 143), (.int .u8 0), (.int .u8 0), (.int .u8 0), (.int .u8 0), (.int .u8 0), (.int .u8 0), (.int .u8 0), (.int .u8 0), (.int .u8 0), (.int .u8 0), (.int .u8 0), (.int .u8 0), (.int .u8 0), (.int .u8 0), (.int .u8 0), (.int .u8 0), (.int .u8 0), (.int .u8 0), (.int .u8 0), (.int .u8 0), (.int .u8 0), (.int .u8 0)]) 1 #[(.string ⟨#[114, 105, 118, 101, 114, 115]⟩), (.string ⟨#[114, 111, 97, 100, 115]⟩)]) 0 #[(.string ⟨#[115, 116, 97, 99, 107]⟩), (.string ⟨#[114, 105, 118, 101, 114]⟩), (.string ⟨#[114, 111, 97, 100]⟩), (.string ⟨#[115, 117, 112, 112, 108, 121]⟩), (.string ⟨#[116, 117, 114, 110, 115]⟩)]) 21 (datCells Go.Pinned.utf8First))
theorem lenv2 {α : Type} {l : List α} (h : l.length = 2) : ∃ x0 x1, l = [x0, x1] := by
  match l, h with
  | [x0, x1], _ => exact ⟨_, _, rfl⟩
theorem lenv3 {α : Type} {l : List α} (h : l.length = 3) : ∃ x0 x1 x2, l = [x0, x1, x2] := by
  match l, h with
  | [x0, x1, x2], _ => exact ⟨_, _, _, rfl⟩
theorem lenv14 {α : Type} {l : List α} (h : l.length = 14) : ∃ x0 x1 x2 x3 x4 x5 x6 x7 x8 x9 x10 x11 x12 x13, l = [x0, x1, x2, x3, x4, x5, x6, x7, x8, x9, x10, x11, x12, x13] := by
  match l, h with
  | [x0, x1, x2, x3, x4, x5, x6, x7, x8, x9, x10, x11, x12, x13], _ => exact ⟨_, _, _, _, _, _, _, _, _, _, _, _, _, _, rfl⟩
theorem lenv15 {α : Type} {l : List α} (h : l.length = 15) : ∃ x0 x1 x2 x3 x4 x5 x6 x7 x8 x9 x10 x11 x12 x13 x14, l = [x0, x1, x2, x3, x4, x5, x6, x7, x8, x9, x10, x11, x12, x13, x14] := by
  match l, h with
  | [x0, x1, x2, x3, x4, x5, x6, x7, x8, x9, x10, x11, x12, x13, x14], _ => exact ⟨_, _, _, _, _, _, _, _, _, _, _, _, _, _, _, rfl⟩
theorem lenv16 {α : Type} {l : List α} (h : l.length = 16) : ∃ x0 x1 x2 x3 x4 x5 x6 x7 x8 x9 x10 x11 x12 x13 x14 x15, l = [x0, x1, x2, x3, x4, x5, x6, x7, x8, x9, x10, x11, x12, x13, x14, x15] := by
  match l, h with
  | [x0, x1, x2, x3, x4, x5, x6, x7, x8, x9, x10, x11, x12, x13, x14, x15], _ => exact ⟨_, _, _, _, _, _, _, _, _, _, _, _, _, _, _, _, rfl⟩
theorem lenv17 {α : Type} {l : List α} (h : l.length = 17) : ∃ x0 x1 x2 x3 x4 x5 x6 x7 x8 x9 x10 x11 x12 x13 x14 x15 x16, l = [x0, x1, x2, x3, x4, x5, x6, x7, x8, x9, x10, x11, x12, x13, x14, x15, x16] := by
  match l, h with
  | [x0, x1, x2, x3, x4, x5, x6, x7, x8, x9, x10, x11, x12, x13, x14, x15, x16], _ => exact ⟨_, _, _, _, _, _, _, _, _, _, _, _, _, _, _, _, _, rfl⟩
theorem lenv18 {α : Type} {l : List α} (h : l.length = 18) : ∃ x0 x1 x2 x3 x4 x5 x6 x7 x8 x9 x10 x11 x12 x13 x14 x15 x16 x17, l = [x0, x1, x2, x3, x4, x5, x6, x7, x8, x9, x10, x11, x12, x13, x14, x15, x16, x17] := by
  match l, h with
  | [x0, x1, x2, x3, x4, x5, x6, x7, x8, x9, x10, x11, x12, x13, x14, x15, x16, x17], _ => exact ⟨_, _, _, _, _, _, _, _, _, _, _, _, _, _, _, _, _, _, rfl⟩

end Go.Proofs.YtmolpkjdjkhnpabGreatDoor

/-
  TerrainLine of the program: the line of a terrain of valid rules, or nothing. The named variables hold what the program's text lays.
-/
namespace Go.Proofs.YtmolpkjdjkhnpabGreatDoor
open Go.RowKit

theorem itoa_any (x : Int) (w : World) (h0 : -1000000 < x) (h1 : x < 1000000) (hp : PowAt w) :
    Calls Tryz.prog 70 #[.int .i64 x] w fun e w' => e = .returned (.string (txt (Lib.itoa x))) ∧ Kp w w' := by
  refine (Tryz.strconv_Itoa x (by omega) (by omega) w hp).mono fun e w' ⟨he, k, os, hw⟩ => ⟨he, ?_⟩
  subst hw
  refine ⟨rfl, rfl, rfl, ?_, fun j hj => ?_⟩
  · show w.heap.size ≤ (w.heap ++ os).size
    simp
  · show (w.heap ++ os)[j]? = w.heap[j]?
    exact Array.getElem?_append_left hj

theorem terForm (n : Nat) : Lib.join (terWs n) [32] = [116, 101, 114, 114, 97, 105, 110, 32, 78, 65, 77, 69, 32, 115, 104, 105, 102, 116, 32, 78, 32, 104, 101, 105, 103, 104, 116, 32, 78, 32, 99, 111, 115, 116] ++ Lib.repeatL [32, 78] n := by
  have e : ∀ n, Lib.joinTail [32] (List.replicate n [78]) = Lib.repeatL [32, 78] n := by
    intro n
    induction n with
    | zero => rfl
    | succ n ih =>
      rw [List.replicate_succ, Lib.repeatL, ← ih]
      simp [Lib.joinTail]
  rw [← e]
  simp [terWs, Lib.join_cons, Lib.joinTail]

set_option maxRecDepth 100000 in
theorem terrainFormOf_any (n : Nat) (w : World) (hn : n ≤ 1000) :
    Calls Tryz.prog 74 #[.int .i64 (n : Int)] w fun e w' => e = .returned (.string (txt (Lib.join (terWs n) [32]))) ∧ Kp w w' := by
  have CR := Lib.hid (Tryz.strings_Repeat (ByteArray.mk #[32, 78]) n w (by omega) (by show 2 * n ≤ _; omega))
  obtain ⟨s, hs⟩ : ∃ s, s = ByteArray.mk (Lib.repeatL (ByteArray.mk #[32, 78]).data.toList n).toArray := ⟨_, rfl⟩
  rw [← hs] at CR
  have hz : s.size = n * 2 := by
    rw [hs]
    show (Lib.repeatL _ n).toArray.size = _
    rw [List.size_toArray, Lib.repeatL_length]
    rfl
  have HT : Hid (ByteArray.mk #[116, 101, 114, 114, 97, 105, 110, 32, 78, 65, 77, 69, 32, 115, 104, 105, 102, 116, 32, 78, 32, 104, 101, 105, 103, 104, 116, 32, 78, 32, 99, 111, 115, 116] ++ s = txt (Lib.join (terWs n) [32])) := Lib.hid (by
    rw [terForm, hs, show ByteArray.mk #[116, 101, 114, 114, 97, 105, 110, 32, 78, 65, 77, 69, 32, 115, 104, 105, 102, 116, 32, 78, 32, 104, 101, 105, 103, 104, 116, 32, 78, 32, 99, 111, 115, 116] = txt [116, 101, 114, 114, 97, 105, 110, 32, 78, 65, 77, 69, 32, 115, 104, 105, 102, 116, 32, 78, 32, 104, 101, 105, 103, 104, 116, 32, 78, 32, 99, 111, 115, 116] from rfl]
    exact txt_app _ _)
  have y1 : ¬ 9223372036854775807 < 34 + s.size := by omega
  clear hs
  go_enter Tryz.func74, Tryz.ntmps74
  go_wp2_with fail
  refine CR.out.mono ?_
  rintro e1 w1 ⟨rfl, k1⟩
  go_wp2_with fail
  go_ret
  exact ⟨ret_str HT.out, k1⟩

set_option maxRecDepth 100000 in
set_option maxHeartbeats 8000000 in
theorem terrainLine_any (nm : ByteArray) (A : Option Addr) (n cc : Nat) (l : List Int) (s h : Int) (z : Bool) (w : World) (hr : RdI w (.slice A n cc) l) (hm : TerSm ⟨nm, l, s, h, z⟩ n) (h0 : 0 < n) (hn : n ≤ 100) (hp : PowAt w) :
    Calls Tryz.prog 37 #[tv nm A n cc s h z] w fun e w' => e = .returned (.string (txt (terTx ⟨nm, l, s, h, z⟩))) ∧ Kp w w' := by
  obtain ⟨m1, m2, m3, m4, m5⟩ := hm
  simp only at m1 m2 m3 m4 m5
  have hlen := terTx_len ⟨nm, l, s, h, z⟩ m1 m4.1 m4.2 m5.2 (fun x hx => (m3 x hx).2)
  have htx := ter_tx ⟨nm, l, s, h, z⟩ m5.1 (fun x hx => (m3 x hx).1)
  simp only at hlen htx
  rw [m2] at hlen htx
  have hjl : (Lib.join (fillW (terWs n) nm.data.toList (s :: h :: l)) [32]).length ≤ 364 := by
    rw [htx, List.length_append] at hlen
    omega
  have KB : Kp w (((w.alloc (.cells #[.string nm, .slice A n cc, .int .i64 s, .int .i64 h, .bool z] 85)).alloc (.cells #[.int .i64 s, .int .i64 h] 3)).alloc (.cells #[.slice (some ⟨w.heap.size + 1, 0, none⟩) 2 2, .slice A n cc] 26)) := (((Kp.refl w).alloc _).alloc _).alloc _
  have HRL := Lib.hid (hr.keep KB)
  have hf2 : ([[s, h], l] : List (List Int)).flatten = s :: h :: l := by simp
  have CC := Lib.hid (concat_any (w.heap.size + 2) 0 2 2 [.slice (some ⟨w.heap.size + 1, 0, none⟩) 2 2, .slice A n cc] [[s, h], l] (((w.alloc (.cells #[.string nm, .slice A n cc, .int .i64 s, .int .i64 h, .bool z] 85)).alloc (.cells #[.int .i64 s, .int .i64 h] 3)).alloc (.cells #[.slice (some ⟨w.heap.size + 1, 0, none⟩) 2 2, .slice A n cc] 26))
    (fun j u hj => by
      match j, hj with
      | 0, hj => simp only [List.getElem?_cons_zero, Option.some.injEq] at hj; subst hj; simp [go_sem]
      | 1, hj => simp only [List.getElem?_cons_zero, List.getElem?_cons_succ, Option.some.injEq] at hj; subst hj; simp [go_sem]
      | j + 2, hj => simp at hj) rfl rfl
    (fun j u r hu hr2 => by
      match j, hu, hr2 with
      | 0, hu, hr2 =>
        simp only [List.getElem?_cons_zero, Option.some.injEq] at hu hr2
        subst hu hr2
        refine ⟨_, _, rfl, fun _ => ⟨_, _, rfl, fun i x hx => ?_⟩⟩
        match i, hx with
        | 0, hx => simp only [List.getElem?_cons_zero, Option.some.injEq] at hx; subst hx; simp [go_sem]
        | 1, hx => simp only [List.getElem?_cons_zero, List.getElem?_cons_succ, Option.some.injEq] at hx; subst hx; simp [go_sem]
        | i + 2, hx => simp at hx
      | 1, hu, hr2 =>
        simp only [List.getElem?_cons_zero, List.getElem?_cons_succ, Option.some.injEq] at hu hr2
        subst hu hr2
        exact HRL.out
      | j + 2, hu, _ => simp at hu)
    (fun r hr2 => by
      simp only [List.mem_cons, List.not_mem_nil, or_false] at hr2
      rcases hr2 with rfl | rfl
      · simp
      · omega) (by rw [hf2]; simp; omega) (by rw [hf2]; simp) (by omega))
  rw [hf2] at CC
  have s0 : (((w.alloc (.cells #[.string nm, .slice A n cc, .int .i64 s, .int .i64 h, .bool z] 85)).alloc (.cells #[.int .i64 s, .int .i64 h] 3)).alloc (.cells #[.slice (some ⟨w.heap.size + 1, 0, none⟩) 2 2, .slice A n cc] 26)).cell? ⟨w.heap.size, 0, none⟩ = some (.string nm) ∧ (((w.alloc (.cells #[.string nm, .slice A n cc, .int .i64 s, .int .i64 h, .bool z] 85)).alloc (.cells #[.int .i64 s, .int .i64 h] 3)).alloc (.cells #[.slice (some ⟨w.heap.size + 1, 0, none⟩) 2 2, .slice A n cc] 26)).cell? ⟨w.heap.size, 1, none⟩ = some (.slice A n cc) ∧ (((w.alloc (.cells #[.string nm, .slice A n cc, .int .i64 s, .int .i64 h, .bool z] 85)).alloc (.cells #[.int .i64 s, .int .i64 h] 3)).alloc (.cells #[.slice (some ⟨w.heap.size + 1, 0, none⟩) 2 2, .slice A n cc] 26)).cell? ⟨w.heap.size, 4, none⟩ = some (.bool z) := ⟨by simp [go_sem], by simp [go_sem], by simp [go_sem]⟩
  obtain ⟨J, hJ⟩ : ∃ J, J = Lib.join (fillW (terWs n) nm.data.toList (s :: h :: l)) [32] := ⟨_, rfl⟩
  have HJ := Lib.hid hJ
  have HT := Lib.hid htx
  rw [← hJ] at HT hjl
  have hz : (txt J).size ≤ 364 := by rw [txt_size]; exact hjl
  have y1 : ¬ 9223372036854775807 < (txt J).size + 7 := by omega
  have CF := Lib.hid (fun w => terrainFormOf_any n w (by omega))
  have HP := Lib.hid (hp.keep KB)
  have HLN := Lib.hid m2
  have HC : Hid (∀ x ∈ s :: h :: l, -1000000 < x ∧ x < 1000000) := Lib.hid (fun x hx => by
    simp only [List.mem_cons] at hx
    rcases hx with rfl | rfl | hx
    · omega
    · omega
    · have := m3 x hx; omega)
  have HJL := Lib.hid hjl
  clear hlen htx hJ hjl m1 m2 m3 m4 m5 hr hp hf2
  go_enter Tryz.func37, Tryz.ntmps37
  go_wp2_with fail
  refine CC.out.mono ?_
  rintro e0 wc ⟨v, rfl, oc, kc⟩
  have KC := KB.trans kc
  have hrow := row_shape1 oc (by simp)
  obtain ⟨g, cp, hv, hcp, hcp2, hg⟩ := hrow
  have hll : (s :: h :: l).length = n + 2 := by have := HLN.out; simp; omega
  rw [hll] at hv hcp
  have oc2 := oc
  unfold OwnI at oc2
  rw [hll] at oc2
  have CL : Hid (∀ W, Kp wc W → Calls Tryz.prog 72 #[.string (txt (Lib.join (terWs n) [32])), .string nm, .slice (some ⟨g, 0, none⟩) (n + 2) cp] W fun e w' => e = .returned (.string (txt J)) ∧ Kp W w') := Lib.hid (fun W kW => by
    rw [HJ.out]
    refine filledForm_any (txt (Lib.join (terWs n) [32])) nm [116, 101, 114, 114, 97, 105, 110] ([[78, 65, 77, 69], [115, 104, 105, 102, 116], [78], [104, 101, 105, 103, 104, 116], [78], [99, 111, 115, 116]] ++ List.replicate n [78]) (s :: h :: l) g 0 (n + 2) cp W ?_ ?_ ?_ ?_ hll hcp hcp2 ?_ ?_ ?_ ?_
    · rw [txt_size, terForm, List.length_append, Lib.repeatL_length]
      simp only [List.length_cons, List.length_nil]
      omega
    · simp [txt, terWs]
    · intro y hy
      simp only [List.cons_append, List.nil_append, List.mem_cons, List.mem_replicate] at hy
      rcases hy with rfl | rfl | rfl | rfl | rfl | rfl | rfl | ⟨_, rfl⟩ <;> decide
    · simp only [List.length_append, List.length_replicate, List.length_cons, List.length_nil]
      omega
    · have : usedN ([116, 101, 114, 114, 97, 105, 110] :: ([[78, 65, 77, 69], [115, 104, 105, 102, 116], [78], [104, 101, 105, 103, 104, 116], [78], [99, 111, 115, 116]] ++ List.replicate n [78])) = n + 2 := by
        simp [usedN]
      omega
    · intro i x hx
      have hx2 := lt_of_at hx
      have hcc : (cellsI (s :: h :: l))[i]? = some (.int .i64 x) := by
        show (List.map _ (s :: h :: l))[i]? = _
        rw [List.getElem?_map, hx]
        rfl
      have oc3 := oc2
      rw [hv] at oc3
      have := kW.cell ((World.ownsRow.cellAt oc3 i (by rw [hll] at hx2; omega)).trans hcc)
      simpa using this
    · intro x hx w' k'
      have := HC.out x hx
      exact itoa_any x w' this.1 this.2 (((HP.out.keep kc).keep kW).keep k')
    · have := HJL.out
      rw [HJ.out] at this
      exact Nat.le_trans this (by decide))
  subst hv
  have s1 : wc.drew.cell? ⟨w.heap.size, 0, none⟩ = some (.string nm) ∧ wc.drew.cell? ⟨w.heap.size, 1, none⟩ = some (.slice A n cc) ∧ wc.drew.cell? ⟨w.heap.size, 4, none⟩ = some (.bool z) ∧ Kp wc wc.drew := ⟨kc.cell s0.1, kc.cell s0.2.1, kc.cell s0.2.2, (Kp.refl wc).drew⟩
  clear s0 CC HC HJ HJL HP HRL oc oc2 hll
  go_wp2_with fail
  refine wp_region_held_drew (S := (fun w' => w'.cell? ⟨w.heap.size, 0, none⟩ = some (.string nm) ∧ w'.cell? ⟨w.heap.size, 1, none⟩ = some (.slice A n cc) ∧ w'.cell? ⟨w.heap.size, 4, none⟩ = some (.bool z) ∧ Kp wc w')) (by kernel_rfl) ?_ (fun hHeld => ?_)
  · exact s1
  refine wpAnyH_take (i := 0) (oi := ⟨some 14, _, _, _, _, _⟩) (v := ?_) rfl (by kernel_rfl) (by kernel_rfl) (by kernel_rfl) (fun _ _ _ h => h) (Or.inl ⟨by rfl, ?_⟩) (by assumption) ?_
  rotate_left
  · intro w hSw; (try dsimp only at hSw); go_simp; (all_goals with_reducible rfl)
  simp only [Act.put, List.setIfInBounds_toArray, List.set_cons_zero, List.set_cons_succ]
  refine wpAnyH_take (i := 1) (oi := ⟨some 15, _, _, _, _, _⟩) (v := ?_) rfl (by kernel_rfl) (by kernel_rfl) (by kernel_rfl) (fun _ _ _ h => h) (Or.inl ⟨by rfl, ?_⟩) (by assumption) ?_
  rotate_left
  · intro w hSw; (try dsimp only at hSw); go_simp; (all_goals with_reducible rfl)
  simp only [Act.put, List.setIfInBounds_toArray, List.set_cons_zero, List.set_cons_succ]
  refine wpAnyH_take (i := 2) (oi := ⟨some 16, _, _, _, _, _⟩) (v := ?_) rfl (by kernel_rfl) (by kernel_rfl) (by kernel_rfl) (fun _ _ _ h => h) (Or.inl ⟨by rfl, ?_⟩) (by assumption) ?_
  rotate_left
  · intro w hSw; (try dsimp only at hSw); go_simp; (all_goals with_reducible rfl)
  simp only [Act.put, List.setIfInBounds_toArray, List.set_cons_zero, List.set_cons_succ]
  refine wpAnyH_take (i := 4) (oi := ⟨some 18, _, _, _, _, _⟩) (v := ?_) rfl (by kernel_rfl) (by kernel_rfl) (by kernel_rfl) (fun _ _ _ h => h) (Or.inl ⟨by rfl, ?_⟩) (by assumption) ?_
  rotate_left
  · intro w hSw; (try dsimp only at hSw); go_simp; (all_goals with_reducible rfl)
  simp only [Act.put, List.setIfInBounds_toArray, List.set_cons_zero, List.set_cons_succ]
  refine wpAnyH_take (i := 5) (oi := ⟨some 19, _, _, _, _, _⟩) (v := ?_) rfl (by kernel_rfl) (by kernel_rfl) (by kernel_rfl) (fun _ _ _ h => h) (Or.inl ⟨by rfl, ?_⟩) (by assumption) ?_
  rotate_left
  · intro w hSw; (try dsimp only at hSw); go_simp; (all_goals with_reducible rfl)
  simp only [Act.put, List.setIfInBounds_toArray, List.set_cons_zero, List.set_cons_succ]
  refine wpAnyH_take (i := 6) (oi := ⟨some 20, _, _, _, _, _⟩) (v := ?_) rfl (by kernel_rfl) (by kernel_rfl) (by kernel_rfl) (fun _ _ _ h => h) (Or.inl ⟨by rfl, ?_⟩) (by assumption) ?_
  rotate_left
  · intro w hSw; (try dsimp only at hSw); go_simp; (all_goals with_reducible rfl)
  simp only [Act.put, List.setIfInBounds_toArray, List.set_cons_zero, List.set_cons_succ]
  refine wpAnyH_ready (rs := [3]) (by kernel_rfl) (by simp) ?_
  refine AllReadyH.cons (o := ⟨some 17, _, _, _, _, _⟩) rfl (fun K hK => ?_) AllReadyH.nil
  go_simp
  refine (CF.out _).mono ?_; rintro e1 w1 ⟨rfl, k1⟩; have s2 : w1.cell? ⟨w.heap.size, 0, none⟩ = some (.string nm) ∧ w1.cell? ⟨w.heap.size, 1, none⟩ = some (.slice A n cc) ∧ w1.cell? ⟨w.heap.size, 4, none⟩ = some (.bool z) ∧ Kp wc w1 := ⟨k1.cell s1.1, k1.cell s1.2.1, k1.cell s1.2.2.1, s1.2.2.2.trans k1⟩; clear k1
  go_wp2_with fail
  refine hK.out _ _ ?_ (fun hHeld => ?_)
  · (try dsimp only); (first | assumption | exact s3 | exact s2 | exact s1)
  clear hK K
  try simp only [Act.put, List.setIfInBounds_toArray, List.set_cons_zero, List.set_cons_succ]
  refine wpAnyH_ready (rs := [7]) (by kernel_rfl) (by simp) ?_
  refine AllReadyH.cons (o := ⟨some 21, _, _, _, _, _⟩) rfl (fun K hK => ?_) AllReadyH.nil
  go_simp
  refine (CL.out _ s2.2.2.2).mono ?_; rintro e2 w2 ⟨rfl, k2⟩; have s3 : w2.cell? ⟨w.heap.size, 0, none⟩ = some (.string nm) ∧ w2.cell? ⟨w.heap.size, 1, none⟩ = some (.slice A n cc) ∧ w2.cell? ⟨w.heap.size, 4, none⟩ = some (.bool z) ∧ Kp wc w2 := ⟨k2.cell s2.1, k2.cell s2.2.1, k2.cell s2.2.2.1, s2.2.2.2.trans k2⟩; clear k2
  go_wp2_with fail
  refine hK.out _ _ ?_ (fun hHeld => ?_)
  · (try dsimp only); (first | assumption | exact s3 | exact s2 | exact s1)
  clear hK K
  try simp only [Act.put, List.setIfInBounds_toArray, List.set_cons_zero, List.set_cons_succ]
  refine wpAnyH_take (i := 8) (oi := ⟨some 4, _, _, _, _, _⟩) (v := ?_) rfl (by kernel_rfl) (by kernel_rfl) (by kernel_rfl) (fun _ _ _ h => h) (Or.inl ⟨by rfl, ?_⟩) (by assumption) ?_
  rotate_left
  · intro w hSw; (try dsimp only at hSw); go_simp; (all_goals with_reducible rfl)
  simp only [Act.put, List.setIfInBounds_toArray, List.set_cons_zero, List.set_cons_succ]
  refine wpAnyH_done (by kernel_rfl) ?_ _
  obtain ⟨c0, c1, c4, K3⟩ := s3
  have K4 := KC.trans K3
  cases z
  · have HT2 : Hid (txt J = txt (terTx ⟨nm, l, s, h, false⟩)) := Lib.hid (by rw [HT.out]; simp)
    go_wp2_with fail
    go_ret
    exact ⟨ret_str HT2.out, K4⟩
  · have HT2 : Hid (txt J ++ ByteArray.mk #[32, 98, 108, 111, 99, 107, 115] = txt (terTx ⟨nm, l, s, h, true⟩)) := Lib.hid (by rw [HT.out, show ByteArray.mk #[32, 98, 108, 111, 99, 107, 115] = txt [32, 98, 108, 111, 99, 107, 115] from rfl, txt_app]; rfl)
    go_wp2_with fail
    go_ret
    exact ⟨ret_str HT2.out, K4⟩

end Go.Proofs.YtmolpkjdjkhnpabGreatDoor

/-
  TerrainLine of the program: the line of a terrain of valid rules, or nothing; its row's premise. The named variables hold what the program's text lays.
-/
namespace Go.Proofs.YtmolpkjdjkhnpabGreatDoor
open Go.RowKit

/-- The ranges of rules, and the table of powers of ten. -/
structure SpP (w : World) : Prop where
  sp : Spans w
  pow : PowAt w
theorem SpP.keep {w w' : World} (h : SpP w) (k : Kp w w') : SpP w' := ⟨h.sp.keep k, h.pow.keep k⟩

end Go.Proofs.YtmolpkjdjkhnpabGreatDoor

/-
  The addresses of the five limits of rules in memory.
-/
namespace Go.Proofs.YtmolpkjdjkhnpabGreatDoor
open Go.RowKit

set_option maxRecDepth 100000 in
set_option maxHeartbeats 8000000 in
theorem limitsOf_any (b : Nat) (w : World) (v2 v3 v4 v5 v6 : Value) (_c2 : w.cell? ⟨b, 2, none⟩ = some v2) (_c3 : w.cell? ⟨b, 3, none⟩ = some v3) (_c4 : w.cell? ⟨b, 4, none⟩ = some v4) (_c5 : w.cell? ⟨b, 5, none⟩ = some v5) (_c6 : w.cell? ⟨b, 6, none⟩ = some v6) :
    Calls Tryz.prog 33 #[.pointer (some ⟨b, 0, none⟩)] w fun e w' => e = .returned (.agg #[.pointer (some ⟨b, 2, none⟩), .pointer (some ⟨b, 3, none⟩), .pointer (some ⟨b, 4, none⟩), .pointer (some ⟨b, 5, none⟩), .pointer (some ⟨b, 6, none⟩)]) ∧ Kp w w' := by
  have s1 : True := trivial
  go_enter Tryz.func33, Tryz.ntmps33
  go_wp2_with fail
  refine wp_region_held_drew (S := (fun _ => True)) (by kernel_rfl) ?_ (fun hHeld => ?_)
  · exact s1
  refine wpAnyH_take (i := 0) (oi := ⟨some 3, _, _, _, _, _⟩) (v := ?_) rfl (by kernel_rfl) (by kernel_rfl) (by kernel_rfl) (fun _ _ _ h => h) (Or.inl ⟨by rfl, ?_⟩) (by assumption) ?_
  rotate_left
  · intro w hSw; (try dsimp only at hSw); go_simp; (all_goals with_reducible rfl)
  simp only [Act.put, List.setIfInBounds_toArray, List.set_cons_zero, List.set_cons_succ]
  refine wpAnyH_take (i := 1) (oi := ⟨some 4, _, _, _, _, _⟩) (v := ?_) rfl (by kernel_rfl) (by kernel_rfl) (by kernel_rfl) (fun _ _ _ h => h) (Or.inl ⟨by rfl, ?_⟩) (by assumption) ?_
  rotate_left
  · intro w hSw; (try dsimp only at hSw); go_simp; (all_goals with_reducible rfl)
  simp only [Act.put, List.setIfInBounds_toArray, List.set_cons_zero, List.set_cons_succ]
  refine wpAnyH_take (i := 2) (oi := ⟨some 5, _, _, _, _, _⟩) (v := ?_) rfl (by kernel_rfl) (by kernel_rfl) (by kernel_rfl) (fun _ _ _ h => h) (Or.inl ⟨by rfl, ?_⟩) (by assumption) ?_
  rotate_left
  · intro w hSw; (try dsimp only at hSw); go_simp; (all_goals with_reducible rfl)
  simp only [Act.put, List.setIfInBounds_toArray, List.set_cons_zero, List.set_cons_succ]
  refine wpAnyH_take (i := 3) (oi := ⟨some 6, _, _, _, _, _⟩) (v := ?_) rfl (by kernel_rfl) (by kernel_rfl) (by kernel_rfl) (fun _ _ _ h => h) (Or.inl ⟨by rfl, ?_⟩) (by assumption) ?_
  rotate_left
  · intro w hSw; (try dsimp only at hSw); go_simp; (all_goals with_reducible rfl)
  simp only [Act.put, List.setIfInBounds_toArray, List.set_cons_zero, List.set_cons_succ]
  refine wpAnyH_take (i := 4) (oi := ⟨some 7, _, _, _, _, _⟩) (v := ?_) rfl (by kernel_rfl) (by kernel_rfl) (by kernel_rfl) (fun _ _ _ h => h) (Or.inl ⟨by rfl, ?_⟩) (by assumption) ?_
  rotate_left
  · intro w hSw; (try dsimp only at hSw); go_simp; (all_goals with_reducible rfl)
  simp only [Act.put, List.setIfInBounds_toArray, List.set_cons_zero, List.set_cons_succ]
  refine wpAnyH_take (i := 5) (oi := ⟨some 8, _, _, _, _, _⟩) (v := ?_) rfl (by kernel_rfl) (by kernel_rfl) (by kernel_rfl) (fun _ _ _ h => h) (Or.inl ⟨by rfl, ?_⟩) (by assumption) ?_
  rotate_left
  · intro w hSw; (try dsimp only at hSw); go_simp; (all_goals with_reducible rfl)
  simp only [Act.put, List.setIfInBounds_toArray, List.set_cons_zero, List.set_cons_succ]
  refine wpAnyH_take (i := 6) (oi := ⟨some 9, _, _, _, _, _⟩) (v := ?_) rfl (by kernel_rfl) (by kernel_rfl) (by kernel_rfl) (fun _ _ _ h => h) (Or.inl ⟨by rfl, ?_⟩) (by assumption) ?_
  rotate_left
  · intro w hSw; (try dsimp only at hSw); go_simp; (all_goals with_reducible rfl)
  simp only [Act.put, List.setIfInBounds_toArray, List.set_cons_zero, List.set_cons_succ]
  refine wpAnyH_take (i := 7) (oi := ⟨some 10, _, _, _, _, _⟩) (v := ?_) rfl (by kernel_rfl) (by kernel_rfl) (by kernel_rfl) (fun _ _ _ h => h) (Or.inl ⟨by rfl, ?_⟩) (by assumption) ?_
  rotate_left
  · intro w hSw; (try dsimp only at hSw); go_simp; (all_goals with_reducible rfl)
  simp only [Act.put, List.setIfInBounds_toArray, List.set_cons_zero, List.set_cons_succ]
  refine wpAnyH_take (i := 8) (oi := ⟨some 11, _, _, _, _, _⟩) (v := ?_) rfl (by kernel_rfl) (by kernel_rfl) (by kernel_rfl) (fun _ _ _ h => h) (Or.inl ⟨by rfl, ?_⟩) (by assumption) ?_
  rotate_left
  · intro w hSw; (try dsimp only at hSw); go_simp; (all_goals with_reducible rfl)
  simp only [Act.put, List.setIfInBounds_toArray, List.set_cons_zero, List.set_cons_succ]
  refine wpAnyH_take (i := 9) (oi := ⟨some 12, _, _, _, _, _⟩) (v := ?_) rfl (by kernel_rfl) (by kernel_rfl) (by kernel_rfl) (fun _ _ _ h => h) (Or.inl ⟨by rfl, ?_⟩) (by assumption) ?_
  rotate_left
  · intro w hSw; (try dsimp only at hSw); go_simp; (all_goals with_reducible rfl)
  simp only [Act.put, List.setIfInBounds_toArray, List.set_cons_zero, List.set_cons_succ]
  refine wpAnyH_take (i := 10) (oi := ⟨some 13, _, _, _, _, _⟩) (v := ?_) rfl (by kernel_rfl) (by kernel_rfl) (by kernel_rfl) (fun _ _ _ h => h) (Or.inl ⟨by rfl, ?_⟩) (by assumption) ?_
  rotate_left
  · intro w hSw; (try dsimp only at hSw); go_simp; (all_goals with_reducible rfl)
  simp only [Act.put, List.setIfInBounds_toArray, List.set_cons_zero, List.set_cons_succ]
  refine wpAnyH_take (i := 11) (oi := ⟨some 14, _, _, _, _, _⟩) (v := ?_) rfl (by kernel_rfl) (by kernel_rfl) (by kernel_rfl) (fun _ _ _ h => h) (Or.inl ⟨by rfl, ?_⟩) (by assumption) ?_
  rotate_left
  · intro w hSw; (try dsimp only at hSw); go_simp; (all_goals with_reducible rfl)
  simp only [Act.put, List.setIfInBounds_toArray, List.set_cons_zero, List.set_cons_succ]
  refine wpAnyH_take (i := 12) (oi := ⟨some 15, _, _, _, _, _⟩) (v := ?_) rfl (by kernel_rfl) (by kernel_rfl) (by kernel_rfl) (fun _ _ _ h => h) (Or.inl ⟨by rfl, ?_⟩) (by assumption) ?_
  rotate_left
  · intro w hSw; (try dsimp only at hSw); go_simp; (all_goals with_reducible rfl)
  simp only [Act.put, List.setIfInBounds_toArray, List.set_cons_zero, List.set_cons_succ]
  refine wpAnyH_take (i := 13) (oi := ⟨some 16, _, _, _, _, _⟩) (v := ?_) rfl (by kernel_rfl) (by kernel_rfl) (by kernel_rfl) (fun _ _ _ h => h) (Or.inl ⟨by rfl, ?_⟩) (by assumption) ?_
  rotate_left
  · intro w hSw; (try dsimp only at hSw); go_simp; (all_goals with_reducible rfl)
  simp only [Act.put, List.setIfInBounds_toArray, List.set_cons_zero, List.set_cons_succ]
  refine wpAnyH_take (i := 14) (oi := ⟨some 17, _, _, _, _, _⟩) (v := ?_) rfl (by kernel_rfl) (by kernel_rfl) (by kernel_rfl) (fun _ _ _ h => h) (Or.inl ⟨by rfl, ?_⟩) (by assumption) ?_
  rotate_left
  · intro w hSw; (try dsimp only at hSw); go_simp; (all_goals with_reducible rfl)
  simp only [Act.put, List.setIfInBounds_toArray, List.set_cons_zero, List.set_cons_succ]
  refine wpAnyH_take (i := 15) (oi := ⟨some 18, _, _, _, _, _⟩) (v := ?_) rfl (by kernel_rfl) (by kernel_rfl) (by kernel_rfl) (fun _ _ _ h => h) (Or.inl ⟨by rfl, ?_⟩) (by assumption) ?_
  rotate_left
  · intro w hSw; (try dsimp only at hSw); go_simp; (all_goals with_reducible rfl)
  simp only [Act.put, List.setIfInBounds_toArray, List.set_cons_zero, List.set_cons_succ]
  refine wpAnyH_ready (rs := [16]) (by kernel_rfl) (by simp) ?_
  refine AllReadyH.cons (o := ⟨none, _, _, _, _, _⟩) rfl (fun K hK => ?_) AllReadyH.nil
  go_simp
  refine hK.out _ _ ?_ (fun hHeld => ?_)
  · (try dsimp only); (all_goals trivial)
  clear hK K
  try simp only [Act.put, List.setIfInBounds_toArray, List.set_cons_zero, List.set_cons_succ]
  refine wpAnyH_done (by kernel_rfl) ?_ _
  go_wp2_with fail
  exact bodyPost_ret (v := .agg #[.pointer (some ⟨b, 2, none⟩), .pointer (some ⟨b, 3, none⟩), .pointer (some ⟨b, 4, none⟩), .pointer (some ⟨b, 5, none⟩), .pointer (some ⟨b, 6, none⟩)]) (by simp [results, Tryz.results33, go_sem]) rfl ⟨rfl, ((Kp.refl w).alloc _).drew⟩

end Go.Proofs.YtmolpkjdjkhnpabGreatDoor

/-
  The text of rules as bytes.
-/
namespace Go.Proofs.YtmolpkjdjkhnpabGreatDoor
open Go.RowKit

def limW : List (List UInt8) := [[115, 116, 97, 99, 107], [114, 105, 118, 101, 114], [114, 111, 97, 100], [115, 117, 112, 112, 108, 121], [116, 117, 114, 110, 115]]
def limLine (p : List UInt8 × Int) : List UInt8 := p.1 ++ [32] ++ Lib.decDigits p.2.toNat ++ [10]
def limsT (vs : List Int) (q : Nat) : List UInt8 := ((limW.zip vs).take q).flatMap limLine
def kndsT (m : List Knd) : List UInt8 := m.flatMap fun k => kindTx k ++ [10]
def tersT (l : List Ter) : List UInt8 := l.flatMap fun t => terTx t ++ [10]
def rulTx (r : Rul) : List UInt8 := limsT [r.stack, r.river, r.road, r.supply, r.turns] 5 ++ kndsT r.knds ++ tersT r.ters

theorem limW_at {q : Nat} (h : q < 5) : ∃ nm, limW[q]? = some nm ∧ nm.length ≤ 6 := by
  match q, h with
  | 0, _ => exact ⟨_, rfl, by decide⟩
  | 1, _ => exact ⟨_, rfl, by decide⟩
  | 2, _ => exact ⟨_, rfl, by decide⟩
  | 3, _ => exact ⟨_, rfl, by decide⟩
  | 4, _ => exact ⟨_, rfl, by decide⟩
theorem limsT_more {vs : List Int} {q : Nat} {nm : List UInt8} {x : Int} (h : limW[q]? = some nm) (h' : vs[q]? = some x) : limsT vs (q + 1) = limsT vs q ++ limLine (nm, x) := by
  have e : (limW.zip vs)[q]? = some (nm, x) := by rw [List.getElem?_zip_eq_some]; exact ⟨h, h'⟩
  rw [limsT, List.take_add_one, e]
  simp [limsT]
theorem limLine_len {nm : List UInt8} {x : Int} (h : nm.length ≤ 6) (h1 : x < 100) : (limLine (nm, x)).length ≤ 10 := by
  have := digits_len2 (n := x.toNat) (by omega)
  simp only [limLine, List.length_append, List.length_cons, List.length_nil]
  omega
theorem limsT_len (vs : List Int) (hv : ∀ x ∈ vs, x < 100) (hl : vs.length = 5) : ∀ q, q ≤ 5 → (limsT vs q).length ≤ 10 * q
  | 0, _ => by simp [limsT]
  | q + 1, hq => by
    obtain ⟨nm, h1, h2⟩ := limW_at (q := q) (by omega)
    obtain ⟨x, hx⟩ : ∃ x, vs[q]? = some x := ⟨vs[q]'(by omega), List.getElem?_eq_getElem _⟩
    have := limsT_len vs hv hl q (by omega)
    have := limLine_len h2 (hv x (List.mem_of_getElem? hx))
    rw [limsT_more h1 hx, List.length_append]
    omega
theorem kndsT_more {m : List Knd} {q : Nat} {k : Knd} (h : m[q]? = some k) : kndsT (m.take (q + 1)) = kndsT (m.take q) ++ (kindTx k ++ [10]) := by
  rw [List.take_add_one, h]
  simp [kndsT]
theorem tersT_more {l : List Ter} {q : Nat} {t : Ter} (h : l[q]? = some t) : tersT (l.take (q + 1)) = tersT (l.take q) ++ (terTx t ++ [10]) := by
  rw [List.take_add_one, h]
  simp [tersT]
theorem kndSm_len {k : Knd} (h : KndSm k) : (kindTx k).length ≤ 64 := kindTx_len k h.nm h.str.2 h.mov.2 h.stp.2 h.view.2
theorem terSm_len {t : Ter} {n : Nat} (h : TerSm t n) : (terTx t).length ≤ 64 + 3 * n := by
  have := terTx_len t h.nm h.shift.1 h.shift.2 h.height.2 (fun x hx => (h.cost x hx).2)
  rw [h.len] at this
  exact this
theorem kndsT_len : ∀ (m : List Knd), (∀ k ∈ m, KndSm k) → (kndsT m).length ≤ 65 * m.length
  | [], _ => by simp [kndsT]
  | k :: m, h => by
    have h1 := kndsT_len m (fun y hy => h y (List.mem_cons_of_mem _ hy))
    have h2 := kndSm_len (h k (List.mem_cons_self ..))
    have e : kndsT (k :: m) = (kindTx k ++ [10]) ++ kndsT m := by simp [kndsT]
    rw [e, List.length_append, List.length_append, List.length_cons, List.length_cons, List.length_nil]
    omega
theorem tersT_len (n : Nat) (hn : n ≤ 4) : ∀ (l : List Ter), (∀ t ∈ l, TerSm t n) → (tersT l).length ≤ 77 * l.length
  | [], _ => by simp [tersT]
  | t :: l, h => by
    have h1 := tersT_len n hn l (fun y hy => h y (List.mem_cons_of_mem _ hy))
    have h2 := terSm_len (h t (List.mem_cons_self ..))
    have e : tersT (t :: l) = (terTx t ++ [10]) ++ tersT l := by simp [tersT]
    rw [e, List.length_append, List.length_append, List.length_cons, List.length_cons, List.length_nil]
    omega
theorem rulOk_knds {l : List Ter} {m : List Knd} {a b c d e : Int} (h : rulOk ⟨l, m, a, b, c, d, e⟩ = true) : ∀ k ∈ m, KndSm k := fun k hk => by
  obtain ⟨i, hi⟩ := List.getElem?_of_mem hk
  exact rulOk_knd h hi
theorem rulOk_ters {l : List Ter} {m : List Knd} {a b c d e : Int} (h : rulOk ⟨l, m, a, b, c, d, e⟩ = true) : ∀ t ∈ l, TerSm t m.length := fun k hk => by
  obtain ⟨i, hi⟩ := List.getElem?_of_mem hk
  exact rulOk_ter h hi

end Go.Proofs.YtmolpkjdjkhnpabGreatDoor

/-
  RulesText of the program. The named variables hold what the program's text lays.
-/
namespace Go.Proofs.YtmolpkjdjkhnpabGreatDoor
open Go.RowKit

/-- The names of the limits, as the program's text lays them. -/
def LimAt (w : World) : Prop := ∀ (j : Nat) nm, limW[j]? = some nm → w.cell? ⟨0, j, none⟩ = some (.string (txt nm))
theorem LimAt.keep {w w' : World} (h : LimAt w) (k : Kp w w') : LimAt w' := fun j nm hj => k.cell (h j nm hj)
structure SpL (w : World) : Prop where
  sp : SpP w
  lim : LimAt w
theorem SpL.keep {w w' : World} (h : SpL w) (k : Kp w w') : SpL w' := ⟨h.sp.keep k, h.lim.keep k⟩

theorem isBuilder_keep {T e : TypeId} {B b : Nat} {bs : List Value} {w w' : World} (h : Lib.IsBuilder T e B b bs w) (k : Kp w w') : Lib.IsBuilder T e B b bs w' := by
  have one : ∀ p, Lib.BuilderAt T e B b p bs w → Lib.BuilderAt T e B b p bs w' := fun p ⟨hB, v, hb, ho, hn⟩ =>
    ⟨hB, v, (k.block b (by
      rcases Nat.lt_or_ge b w.heap.size with h' | h'
      · exact h'
      · simp [Array.getElem?_eq_none h'] at hb)).trans hb, ownsRow_keep ho k, hn⟩
  rcases h with h | h
  · exact .inl (one _ h)
  · exact .inr (one _ h)
set_option maxRecDepth 100000 in
theorem idx5 (b q : Nat) (w : World) (h : q < 5) : Sem.run Tryz.prog (Instr.index 72 (.agg #[.pointer (some ⟨b, 2, none⟩), .pointer (some ⟨b, 3, none⟩), .pointer (some ⟨b, 4, none⟩), .pointer (some ⟨b, 5, none⟩), .pointer (some ⟨b, 6, none⟩)]) (.int .i64 (q : Int))) w = .ok (.pointer (some ⟨b, 2 + q, none⟩)) w := by
  have hq5 : q = 0 ∨ q = 1 ∨ q = 2 ∨ q = 3 ∨ q = 4 := by omega
  rcases hq5 with rfl | rfl | rfl | rfl | rfl <;> rfl
theorem strCells_txt (l : List UInt8) : Lib.strCells (txt l) = Lib.byteCells l := rfl
theorem limLine_nums {nm : List UInt8} {x : Int} (h : 0 ≤ x) : nm ++ numsT [x] ++ [10] = limLine (nm, x) := by
  simp [numsT, limLine, itoa_pos h]

set_option maxRecDepth 100000 in
set_option maxHeartbeats 16000000 in
theorem implRulesText_yes (At Ak : Option Addr) (nt nk ct ck : Nat) (l : List Ter) (m : List Knd) (a b c d e : Int) (w : World) (hs : SpL w) (h : RulAt w At Ak nt nk l m) (hok : rulOk ⟨l, m, a, b, c, d, e⟩ = true) :
    Calls Tryz.prog 16 #[rv (.slice At nt ct) (.slice Ak nk ck) a b c d e] w fun e' w' => e' = .returned (.tuple #[.string (txt (rulTx ⟨l, m, a, b, c, d, e⟩)), .bool true]) ∧ Kp w w' := by
  have KA : Kp w (w.alloc (.cells #[.slice At nt ct, .slice Ak nk ck, .int .i64 a, .int .i64 b, .int .i64 c, .int .i64 d, .int .i64 e] 37)) := (Kp.refl w).alloc _
  have s0 : (w.alloc (.cells #[.slice At nt ct, .slice Ak nk ck, .int .i64 a, .int .i64 b, .int .i64 c, .int .i64 d, .int .i64 e] 37)).cell? ⟨w.heap.size, 0, none⟩ = some (.slice At nt ct) ∧ (w.alloc (.cells #[.slice At nt ct, .slice Ak nk ck, .int .i64 a, .int .i64 b, .int .i64 c, .int .i64 d, .int .i64 e] 37)).cell? ⟨w.heap.size, 1, none⟩ = some (.slice Ak nk ck) ∧ (w.alloc (.cells #[.slice At nt ct, .slice Ak nk ck, .int .i64 a, .int .i64 b, .int .i64 c, .int .i64 d, .int .i64 e] 37)).cell? ⟨w.heap.size, 2, none⟩ = some (.int .i64 a) ∧ (w.alloc (.cells #[.slice At nt ct, .slice Ak nk ck, .int .i64 a, .int .i64 b, .int .i64 c, .int .i64 d, .int .i64 e] 37)).cell? ⟨w.heap.size, 3, none⟩ = some (.int .i64 b) ∧ (w.alloc (.cells #[.slice At nt ct, .slice Ak nk ck, .int .i64 a, .int .i64 b, .int .i64 c, .int .i64 d, .int .i64 e] 37)).cell? ⟨w.heap.size, 4, none⟩ = some (.int .i64 c) ∧ (w.alloc (.cells #[.slice At nt ct, .slice Ak nk ck, .int .i64 a, .int .i64 b, .int .i64 c, .int .i64 d, .int .i64 e] 37)).cell? ⟨w.heap.size, 5, none⟩ = some (.int .i64 d) ∧ (w.alloc (.cells #[.slice At nt ct, .slice Ak nk ck, .int .i64 a, .int .i64 b, .int .i64 c, .int .i64 d, .int .i64 e] 37)).cell? ⟨w.heap.size, 6, none⟩ = some (.int .i64 e) := ⟨by simp [go_sem], by simp [go_sem], by simp [go_sem], by simp [go_sem], by simp [go_sem], by simp [go_sem], by simp [go_sem]⟩
  have HL := Lib.hid (h.keep KA)
  have HS := Lib.hid hs
  have CG : Hid (∀ w, Spans w → RulAt w At Ak nt nk l m → Calls Tryz.prog 32 #[rv (.slice At nt ct) (.slice Ak nk ck) a b c d e] w fun e' w' => e' = .returned (.bool true) ∧ Kp w w') := Lib.hid (fun w hs h => by
    have := isRules_any At Ak nt nk ct ck l m a b c d e w hs h
    rw [hok] at this
    exact this)
  have HT := Lib.hid h.rt.2
  have HKK := Lib.hid h.rk.2
  have hlt : l.length = nt := h.rt.1
  have hlk : m.length = nk := h.rk.1
  have hb := rulOk_len hok
  have hn1 : nt ≤ 6 := by omega
  have hn2 : nk ≤ 4 := by omega
  have hn3 : 1 ≤ nk := by omega
  have HKS := Lib.hid (rulOk_knds hok)
  have HTS := Lib.hid (rulOk_ters hok)
  have hlim := rulOk_lim hok
  have HV : Hid (∀ x ∈ [a, b, c, d, e], 0 ≤ x ∧ x < 100) := Lib.hid (fun x hx => by
    simp only [List.mem_cons, List.not_mem_nil, or_false] at hx
    rcases hx with rfl | rfl | rfl | rfl | rfl <;> omega)
  have HVL := Lib.hid (limsT_len [a, b, c, d, e] (fun x hx => (HV.out x hx).2) rfl)
  have HKL := Lib.hid (fun (q : Nat) => kndsT_len (m.take q) (fun x hx => HKS.out x (List.mem_of_mem_take hx)))
  have HTL := Lib.hid (fun (q : Nat) => tersT_len m.length (by omega) (l.take q) (fun x hx => HTS.out x (List.mem_of_mem_take hx)))
  have HLT := Lib.hid hlt
  have HLK := Lib.hid hlk
  obtain ⟨vs, hvs⟩ : ∃ vs, vs = [a, b, c, d, e] := ⟨_, rfl⟩
  have hvl : vs.length = 5 := by rw [hvs]; rfl
  have HVLEN := Lib.hid hvl
  have HVS := Lib.hid hvs
  rw [← hvs] at HV HVL
  have HR : Hid (rulTx ⟨l, m, a, b, c, d, e⟩ = limsT vs 5 ++ kndsT m ++ tersT l) := Lib.hid (by rw [hvs]; rfl)
  clear h hs hok hlt hlk hb hlim hvs hvl
  go_enter Tryz.func16, Tryz.ntmps16
  go_wp2_with fail
  refine (CG.out _ (HS.out.sp.sp.keep KA) HL.out).mono ?_
  rintro e1 w1 ⟨rfl, k1⟩
  have s1 := keepc7 k1 s0
  have K1 := KA.trans k1
  have hz1 : w.heap.size < w1.heap.size := by have := k1.size; simp at this; omega
  have kb1 : Kp w1 (w1.alloc (.cells #[.pointer none, .slice none 0 0] 70)) := (Kp.refl w1).alloc _
  have s2 := keepc7 kb1 s1
  have F0 := Lib.hid (Lib.fresh_isBuilder 70 5 w1)
  have KB := K1.trans kb1
  clear s0 k1 s1 KA
  go_wp2_with fail
  generalize hWB : w1.alloc (.cells #[.pointer none, .slice none 0 0] 70) = WB at *
  have hzB : w1.heap.size < WB.heap.size := by rw [← hWB]; simp
  clear hWB
  obtain ⟨t0, t1, t2, t3, t4, t5, t6⟩ := s2
  refine (limitsOf_any w.heap.size WB _ _ _ _ _ t2 t3 t4 t5 t6).mono ?_
  rintro e2 w2 ⟨rfl, k2⟩
  have F2 : Hid (Lib.IsBuilder 70 5 w1.heap.size w1.heap.size (Lib.byteCells (limsT vs 0)) w2) := Lib.hid (by
    have := isBuilder_keep F0.out k2
    simpa [limsT, Lib.byteCells] using this)
  have HS2 := Lib.hid (And.intro t0 (And.intro t1 (And.intro t2 (And.intro t3 (And.intro t4 (And.intro t5 t6))))))
  have KBL : Below w1.heap.size WB w2 := Below.mono k2 (by omega)
  have hz2 : w1.heap.size < w2.heap.size := by have := k2.size; omega
  clear F0 k2 t0 t1 t2 t3 t4 t5 t6
  go_wp2_with fail
  go_loopw [5, 6, 15] (fun _ _ i wr => ∃ q : Nat, q ≤ 5 ∧ i = .int .i64 q ∧ Hid (Lib.IsBuilder 70 5 w1.heap.size w1.heap.size (Lib.byteCells (limsT vs q)) wr) ∧ w1.heap.size < wr.heap.size ∧ Below w1.heap.size WB wr) (fun _ _ i _ => 5 - (intOf i).toNat)
  case atStart => exact ⟨0, by omega, rfl, F2, hz2, KBL⟩
  case round =>
    clear F2 KBL hz2
    obtain ⟨q, hq, rfl, HBu, hzr, kbl⟩ := hrel
    have kr : Kp w wr := Below.trans KB (Below.mono kbl (Nat.le_of_lt hz1))
    have s3 : wr.cell? ⟨w.heap.size, 0, none⟩ = some (.slice At nt ct) ∧ wr.cell? ⟨w.heap.size, 1, none⟩ = some (.slice Ak nk ck) ∧ wr.cell? ⟨w.heap.size, 2, none⟩ = some (.int .i64 a) ∧ wr.cell? ⟨w.heap.size, 3, none⟩ = some (.int .i64 b) ∧ wr.cell? ⟨w.heap.size, 4, none⟩ = some (.int .i64 c) ∧ wr.cell? ⟨w.heap.size, 5, none⟩ = some (.int .i64 d) ∧ wr.cell? ⟨w.heap.size, 6, none⟩ = some (.int .i64 e) := ⟨(kbl.cell (show w.heap.size < w1.heap.size from hz1)).trans HS2.out.1, (kbl.cell (show w.heap.size < w1.heap.size from hz1)).trans HS2.out.2.1, (kbl.cell (show w.heap.size < w1.heap.size from hz1)).trans HS2.out.2.2.1, (kbl.cell (show w.heap.size < w1.heap.size from hz1)).trans HS2.out.2.2.2.1, (kbl.cell (show w.heap.size < w1.heap.size from hz1)).trans HS2.out.2.2.2.2.1, (kbl.cell (show w.heap.size < w1.heap.size from hz1)).trans HS2.out.2.2.2.2.2.1, (kbl.cell (show w.heap.size < w1.heap.size from hz1)).trans HS2.out.2.2.2.2.2.2⟩
    by_cases hlt : q < 5
    · have hlt' : (q : Int) < 5 := by omega
      obtain ⟨nm, hnm, hnl⟩ := limW_at hlt
      obtain ⟨x, hx⟩ : ∃ x, vs[q]? = some x := ⟨vs[q]'(by have := HVLEN.out; omega), List.getElem?_eq_getElem _⟩
      have a0 := kr.cell (HS.out.lim q nm hnm)
      have hx1 := HV.out x (List.mem_of_getElem? hx)
      have hp1 : wr.cell? ⟨w.heap.size, 2 + q, none⟩ = some (.int .i64 x) := by
        rw [HVS.out] at hx
        obtain ⟨t0, t1, t2, t3, t4, t5, t6⟩ := s3
        match q, hlt, hx with
        | 0, _, hx => simp at hx; subst hx; exact t2
        | 1, _, hx => simp at hx; subst hx; exact t3
        | 2, _, hx => simp at hx; subst hx; exact t4
        | 3, _, hx => simp at hx; subst hx; exact t5
        | 4, _, hx => simp at hx; subst hx; exact t6
      have hix := idx5 w.heap.size q wr hlt
      have kx : Kp wr ((wr.alloc (.cells #[.int .i64 x] 3)).drew) := ((Kp.refl wr).alloc _).drew
      have hgl : 0 < w.heap.size := cell_lt (HS.out.lim q nm hnm)
      obtain ⟨sn, hsn⟩ : ∃ y, txt nm = y := ⟨_, rfl⟩
      have hld : sn.data.toList = nm := by rw [← hsn]; simp [txt]
      have CN : Hid (∀ W g, W.cell? ⟨g, 0, none⟩ = some (.int .i64 x) → Calls Tryz.prog 35 #[.string sn, .slice (some ⟨g, 0, none⟩) 1 1] W fun e w' => e = .returned (.string (txt (limLine (nm, x)))) ∧ Kp W w') := Lib.hid (fun W g hg => by
        have := numbersLine_any sn (.slice (some ⟨g, 0, none⟩) 1 1) [x] W ⟨_, _, rfl, fun _ => ⟨_, _, rfl, fun i y hy => by
          match i, hy with
          | 0, hy => simp only [List.getElem?_cons_zero, Option.some.injEq] at hy; subst hy; exact hg
          | i + 1, hy => simp at hy⟩⟩ (by simp) (fun y hy w' _ => itoa_small y w' (by simp only [List.mem_cons, List.not_mem_nil, or_false] at hy; subst hy; exact hx1.1) (by simp only [List.mem_cons, List.not_mem_nil, or_false] at hy; subst hy; exact hx1.2)) (by
          rw [hld, List.length_append]
          have h1 := itoa_len2 (n := x) (by omega) hx1.2
          simp only [numsT, List.flatMap_cons, List.flatMap_nil, List.append_nil, List.length_cons]
          omega)
        rw [hld, limLine_nums hx1.1] at this
        exact this)
      have HLL : Hid ((txt (limLine (nm, x))).size ≤ 10) := Lib.hid (by rw [txt_size]; exact limLine_len hnl hx1.2)
      have HM := Lib.hid (limsT_more hnm hx)
      have HVQ := Lib.hid (HVL.out q (by omega))
      rw [hsn] at a0
      obtain ⟨sl, hsl⟩ : ∃ y, txt (limLine (nm, x)) = y := ⟨_, rfl⟩
      have HSL : Hid (Lib.strCells sl = Lib.byteCells (limLine (nm, x))) := Lib.hid (by rw [← hsl]; exact strCells_txt _)
      rw [hsl] at CN HLL
      have s1 : wr.drew.cell? ⟨0, q, none⟩ = some (.string sn) ∧ wr.drew.cell? ⟨w.heap.size, 2 + q, none⟩ = some (.int .i64 x) ∧ Below w1.heap.size wr wr.drew := ⟨a0, hp1, (Below.refl _ _).drew⟩
      clear hnm hx hx1 hsn hld hsl s3
      go_wp2_with fail
      refine wp_region_held_drew (S := (fun w' => w'.cell? ⟨0, q, none⟩ = some (.string sn) ∧ w'.cell? ⟨w.heap.size, 2 + q, none⟩ = some (.int .i64 x) ∧ Below w1.heap.size wr w')) (by kernel_rfl) ?_ (fun hHeld => ?_)
      · exact s1
      refine wpAnyH_take (i := 0) (oi := ⟨some 19, _, _, _, _, _⟩) (v := ?_) rfl (by kernel_rfl) (by kernel_rfl) (by kernel_rfl) (fun _ _ _ h => h) (Or.inl ⟨by rfl, ?_⟩) (by assumption) ?_
      rotate_left
      · intro w hSw; (try dsimp only at hSw); go_simp; (all_goals with_reducible rfl)
      simp only [Act.put, List.setIfInBounds_toArray, List.set_cons_zero, List.set_cons_succ]
      refine wpAnyH_take (i := 1) (oi := ⟨some 20, _, _, _, _, _⟩) (v := ?_) rfl (by kernel_rfl) (by kernel_rfl) (by kernel_rfl) (fun _ _ _ h => h) (Or.inl ⟨by rfl, ?_⟩) (by assumption) ?_
      rotate_left
      · intro w hSw; (try dsimp only at hSw); go_simp; (all_goals with_reducible rfl)
      simp only [Act.put, List.setIfInBounds_toArray, List.set_cons_zero, List.set_cons_succ]
      refine wpAnyH_take (i := 2) (oi := ⟨some 21, _, _, _, _, _⟩) (v := ?_) rfl (by kernel_rfl) (by kernel_rfl) (by kernel_rfl) (fun _ _ _ h => h) (Or.inl ⟨by rfl, ?_⟩) (by assumption) ?_
      rotate_left
      · intro w hSw; (try dsimp only at hSw); go_simp; (all_goals with_reducible rfl)
      simp only [Act.put, List.setIfInBounds_toArray, List.set_cons_zero, List.set_cons_succ]
      refine wpAnyH_take (i := 3) (oi := ⟨some 22, _, _, _, _, _⟩) (v := ?_) rfl (by kernel_rfl) (by kernel_rfl) (by kernel_rfl) (fun _ _ _ h => h) (Or.inl ⟨by rfl, ?_⟩) (by assumption) ?_
      rotate_left
      · intro w hSw; (try dsimp only at hSw); go_simp; (all_goals with_reducible rfl)
      simp only [Act.put, List.setIfInBounds_toArray, List.set_cons_zero, List.set_cons_succ]
      refine wpAnyH_take (i := 4) (oi := ⟨some 23, _, _, _, _, _⟩) (v := ?_) rfl (by kernel_rfl) (by kernel_rfl) (by kernel_rfl) (fun _ _ _ h => h) (Or.inl ⟨by rfl, ?_⟩) (by assumption) ?_
      rotate_left
      · intro w hSw; (try dsimp only at hSw); go_simp; (all_goals with_reducible rfl)
      simp only [Act.put, List.setIfInBounds_toArray, List.set_cons_zero, List.set_cons_succ]
      refine wpAnyH_take (i := 5) (oi := ⟨some 24, _, _, _, _, _⟩) (v := ?_) rfl (by kernel_rfl) (by kernel_rfl) (by kernel_rfl) (fun _ _ _ h => h) (Or.inl ⟨by rfl, ?_⟩) (by assumption) ?_
      rotate_left
      · intro w hSw; (try dsimp only at hSw); go_simp; (all_goals with_reducible rfl)
      simp only [Act.put, List.setIfInBounds_toArray, List.set_cons_zero, List.set_cons_succ]
      refine wpAnyH_ready (rs := [6]) (by kernel_rfl) (by simp) ?_
      refine AllReadyH.cons (o := ⟨some 25, _, _, _, _, _⟩) rfl (fun K hK => ?_) AllReadyH.nil
      go_simp
      skip
      go_wp2_with fail
      refine hK.out _ _ ?_ (fun hHeld => ?_)
      · (try dsimp only); (first | assumption | exact s4 | exact s3 | exact s1 | exact ⟨kx.cell a0, kx.cell hp1, Below.mono kx (by omega)⟩)
      clear hK K
      try simp only [Act.put, List.setIfInBounds_toArray, List.set_cons_zero, List.set_cons_succ]
      refine wpAnyH_ready (rs := [7]) (by kernel_rfl) (by simp) ?_
      refine AllReadyH.cons (o := ⟨some 26, _, _, _, _, _⟩) rfl (fun K hK => ?_) AllReadyH.nil
      go_simp
      refine (CN.out _ _ (by simp [go_sem])).mono ?_; rintro e3 w3 ⟨rfl, k3⟩; have k03 : Kp wr w3 := kx.trans k3; have s3 : w3.cell? ⟨0, q, none⟩ = some (.string sn) ∧ w3.cell? ⟨w.heap.size, 2 + q, none⟩ = some (.int .i64 x) ∧ Below w1.heap.size wr w3 := ⟨k03.cell a0, k03.cell hp1, Below.mono k03 (by omega)⟩; have HB3 := Lib.hid (isBuilder_keep HBu.out k03); have hz3 : w1.heap.size < w3.heap.size := (by have := k03.size; omega)
      go_wp2_with fail
      refine hK.out _ _ ?_ (fun hHeld => ?_)
      · (try dsimp only); (first | assumption | exact s4 | exact s3 | exact s1 | exact ⟨kx.cell a0, kx.cell hp1, Below.mono kx (by omega)⟩)
      clear hK K
      try simp only [Act.put, List.setIfInBounds_toArray, List.set_cons_zero, List.set_cons_succ]
      refine wpAnyH_ready (rs := [8]) (by kernel_rfl) (by simp) ?_
      refine AllReadyH.cons (o := ⟨some 27, _, _, _, _, _⟩) rfl (fun K hK => ?_) AllReadyH.nil
      go_simp
      refine (writeString_any w1.heap.size w1.heap.size _ _ _ HB3.out (by rw [Lib.byteCells_length]; have := HVQ.out; have := HLL.out; omega) (by omega)).mono ?_; rintro e4 w4 ⟨⟨r4, rfl⟩, hb4, kb4'⟩; have HB4 : Hid (Lib.IsBuilder 70 5 w1.heap.size w1.heap.size (Lib.byteCells (limsT vs (q + 1))) w4) := Lib.hid (by rw [HM.out, Lib.byteCells_append, ← HSL.out]; exact .inr hb4); have kb4 : Below w1.heap.size WB w4 := Below.trans (Below.trans kbl s3.2.2) kb4'; have hz4 : w1.heap.size < w4.heap.size := (by have := kb4'.size; omega); have s4 : w4.cell? ⟨0, q, none⟩ = some (.string sn) ∧ w4.cell? ⟨w.heap.size, 2 + q, none⟩ = some (.int .i64 x) ∧ Below w1.heap.size wr w4 := ⟨(kb4'.cell (show 0 < w1.heap.size by omega)).trans s3.1, (kb4'.cell (show w.heap.size < w1.heap.size from hz1)).trans s3.2.1, Below.trans s3.2.2 kb4'⟩; clear kb4'
      go_wp2_with fail
      refine hK.out _ _ ?_ (fun hHeld => ?_)
      · (try dsimp only); (first | assumption | exact s4 | exact s3 | exact s1 | exact ⟨kx.cell a0, kx.cell hp1, Below.mono kx (by omega)⟩)
      clear hK K
      try simp only [Act.put, List.setIfInBounds_toArray, List.set_cons_zero, List.set_cons_succ]
      refine wpAnyH_done (by kernel_rfl) ?_ _
      go_wp2_with fail
      go_roundw
      case rel => exact ⟨q + 1, by omega, by go_num, HB4, hz4, kb4⟩
      case measure => simp [intOf]; omega
    · have HQ5 := Lib.hid (show q = 5 by omega)
      have hge : ¬ (q : Int) < 5 := by omega
      have HB0 : Hid (Lib.IsBuilder 70 5 w1.heap.size w1.heap.size (Lib.byteCells (limsT vs 5 ++ kndsT (m.take 0))) wr) := Lib.hid (by have h1 := HBu.out; rw [HQ5.out] at h1; simpa [kndsT] using h1)
      have HL5 : Hid ((limsT vs 5).length ≤ 50) := Lib.hid (HVL.out 5 (by omega))
      obtain ⟨H1, hH1⟩ : ∃ y, y = limsT vs 5 := ⟨_, rfl⟩
      rw [← hH1] at HB0 HL5 HR
      obtain ⟨t0, t1, t2, t3, t4, t5, t6⟩ := s3
      clear hH1 HBu
      go_wp2_with fail
      go_loopw [8, 32] (fun _ i wr => ∃ p : Nat, p ≤ nk ∧ i = .int .i64 p ∧ Hid (Lib.IsBuilder 70 5 w1.heap.size w1.heap.size (Lib.byteCells (H1 ++ kndsT (m.take p))) wr) ∧ w1.heap.size < wr.heap.size ∧ Below w1.heap.size WB wr) (fun _ i _ => nk - (intOf i).toNat)
      case atStart => exact ⟨0, by omega, rfl, HB0, hzr, kbl⟩
      case round =>
        clear HB0 hzr kbl kr t0 t1 t2 t3 t4 t5 t6 hge
        obtain ⟨p, hp, rfl, HBu, hzr, kbl⟩ := hrel
        have kr : Kp w wr := Below.trans KB (Below.mono kbl (Nat.le_of_lt hz1))
        have t0 : wr.cell? ⟨w.heap.size, 0, none⟩ = some (.slice At nt ct) := (kbl.cell (show w.heap.size < w1.heap.size from hz1)).trans HS2.out.1
        by_cases hlt : p < nk
        · have hlt' : (p : Int) < nk := by omega
          obtain ⟨x, hx⟩ : ∃ x, m[p]? = some x := ⟨m[p]'(by have := HLK.out; omega), List.getElem?_eq_getElem _⟩
          obtain ⟨g, off, rfl, hc⟩ := HKK.out (by omega)
          have hX := (hc p x hx).keep kr
          have hsm := HKS.out x (List.mem_of_getElem? hx)
          have hkl := kndSm_len hsm
          have HM := Lib.hid (kndsT_more hx)
          have HBL : Hid ((H1 ++ kndsT (m.take p)).length ≤ 310) := Lib.hid (by
            have h2 := HKL.out p
            have h3 := HL5.out
            rw [List.length_append]
            rw [List.length_take] at h2
            omega)
          obtain ⟨nm, ka, kb, kc, kz, kv'⟩ := x
          obtain ⟨m1, m2, m3, m4, m5⟩ := hsm
          simp only at m1 m2 m3 m4 m5 hX
          obtain ⟨na, rfl⟩ : ∃ k : Nat, ka = k := ⟨ka.toNat, by omega⟩
          obtain ⟨nb, rfl⟩ : ∃ k : Nat, kb = k := ⟨kb.toNat, by omega⟩
          obtain ⟨nc, rfl⟩ : ∃ k : Nat, kc = k := ⟨kc.toNat, by omega⟩
          obtain ⟨nv, rfl⟩ : ∃ k : Nat, kv' = k := ⟨kv'.toNat, by omega⟩
          have CX := Lib.hid (fun w => kindLine_any nm na nb nc nv kz w m1 (by omega) (by omega) (by omega) (by omega))
          obtain ⟨X, hX2⟩ : ∃ X, kindTx ⟨nm, na, nb, nc, kz, nv⟩ = X := ⟨_, rfl⟩
          rw [hX2] at CX HM hkl
          have hsx : (txt X).size ≤ 64 := by rw [txt_size]; exact hkl
          have y1 : ¬ 9223372036854775807 < (txt X).size + 1 := by omega
          have HAD : Hid (Lib.strCells (txt X ++ ByteArray.mk #[10]) = Lib.byteCells (X ++ [10]) ∧ (txt X ++ ByteArray.mk #[10]).size ≤ 65) := Lib.hid (by
            rw [show ByteArray.mk #[10] = txt [10] from rfl, txt_app]
            exact ⟨strCells_txt _, by rw [txt_size, List.length_append, List.length_cons, List.length_nil]; omega⟩)
          obtain ⟨a0, a1, a2, a3, a4, a5⟩ := hX
          have kb1 : Kp wr (wr.alloc (.cells #[.string nm, .int .i64 (na : Int), .int .i64 (nb : Int), .int .i64 (nc : Int), .bool kz, .int .i64 (nv : Int)] 82)) := (Kp.refl wr).alloc _
          clear hc hx hkl m1 m2 m3 m4 m5 hX2
          go_wp2_with fail
          refine (CX.out _).mono ?_
          rintro e3 w3 ⟨rfl, k3⟩
          have k03 := kb1.trans k3
          have HB3 := Lib.hid (isBuilder_keep HBu.out k03)
          have hz3 : w1.heap.size < w3.heap.size := by have := k03.size; omega
          clear k3 kb1
          go_wp2_with fail
          refine (writeString_any w1.heap.size w1.heap.size _ _ _ HB3.out (by rw [Lib.byteCells_length]; have := HBL.out; have := HAD.out.2; omega) (by omega)).mono ?_
          rintro e4 w4 ⟨⟨r4, rfl⟩, hb4, kb4⟩
          have HB4 : Hid (Lib.IsBuilder 70 5 w1.heap.size w1.heap.size (Lib.byteCells (H1 ++ kndsT (m.take (p + 1)))) w4) := Lib.hid (by rw [HM.out, ← List.append_assoc, Lib.byteCells_append, ← HAD.out.1]; exact .inr hb4)
          have kb5 : Below w1.heap.size WB w4 := Below.trans (Below.trans kbl (Below.mono k03 (by omega))) kb4
          have hz4 : w1.heap.size < w4.heap.size := by have := kb4.size; omega
          clear hb4 kb4
          go_wp2_with fail
          go_roundw
          case rel => exact ⟨p + 1, by omega, by go_num, HB4, hz4, kb5⟩
          case measure => simp [intOf]; omega
        · have HPK := Lib.hid (show p = nk by omega)
          have hge2 : ¬ (p : Int) < nk := by omega
          have HB0 : Hid (Lib.IsBuilder 70 5 w1.heap.size w1.heap.size (Lib.byteCells ((H1 ++ kndsT m) ++ tersT (l.take 0))) wr) := Lib.hid (by
            have h1 := HBu.out
            rw [List.take_of_length_le (by rw [HLK.out, HPK.out]; exact Nat.le_refl _)] at h1
            simpa [tersT] using h1)
          have HL6 : Hid ((H1 ++ kndsT m).length ≤ 310) := Lib.hid (by
            have h2 := HKL.out m.length
            have h3 := HL5.out
            rw [List.take_length] at h2
            rw [List.length_append]
            have := HLK.out
            omega)
          obtain ⟨H2, hH2⟩ : ∃ y, y = H1 ++ kndsT m := ⟨_, rfl⟩
          rw [← hH2] at HB0 HL6 HR
          clear hH2 HBu
          go_wp2_with fail
          go_loopw [10, 44] (fun _ i wr => ∃ u : Nat, u ≤ nt ∧ i = .int .i64 u ∧ Hid (Lib.IsBuilder 70 5 w1.heap.size w1.heap.size (Lib.byteCells (H2 ++ tersT (l.take u))) wr) ∧ w1.heap.size < wr.heap.size ∧ Below w1.heap.size WB wr) (fun _ i _ => nt - (intOf i).toNat)
          case atStart => exact ⟨0, by omega, rfl, HB0, hzr, kbl⟩
          case round =>
            clear HB0 hzr kbl kr t0 hge2
            obtain ⟨u, hu, rfl, HBu, hzr, kbl⟩ := hrel
            have kr : Kp w wr := Below.trans KB (Below.mono kbl (Nat.le_of_lt hz1))
            have HP := Lib.hid (HS.out.sp.pow.keep kr)
            have HBL : Hid ((H2 ++ tersT (l.take u)).length ≤ 780) := Lib.hid (by
              have h2 := HTL.out u
              have h3 := HL6.out
              rw [List.length_append]
              rw [List.length_take] at h2
              omega)
            by_cases hlt : u < nt
            · have hlt' : (u : Int) < nt := by omega
              obtain ⟨x, hx⟩ : ∃ x, l[u]? = some x := ⟨l[u]'(by have := HLT.out; omega), List.getElem?_eq_getElem _⟩
              obtain ⟨g, off, rfl, hc⟩ := HT.out (by omega)
              have hX := (hc u x hx).keep kr
              have hsm := HTS.out x (List.mem_of_getElem? hx)
              rw [HLK.out] at hsm
              have hkl := terSm_len hsm
              have HM := Lib.hid (tersT_more hx)
              obtain ⟨nm, cs, sh, hg, bl⟩ := x
              have hln := hsm.len
              simp only at hln hX
              obtain ⟨Ac, cc, ⟨a0, a1, a2, a3, a4⟩, hrd⟩ := hX
              simp only at a0 a1 a2 a3 a4 hrd
              rw [hln] at a1 hrd
              have CX := Lib.hid (fun w hr hp => terrainLine_any nm Ac nk cc cs sh hg bl w hr hsm (by omega) (by omega) hp)
              obtain ⟨X, hX2⟩ : ∃ X, terTx ⟨nm, cs, sh, hg, bl⟩ = X := ⟨_, rfl⟩
              rw [hX2] at CX HM hkl
              have hsx : (txt X).size ≤ 76 := by rw [txt_size]; omega
              have y1 : ¬ 9223372036854775807 < (txt X).size + 1 := by omega
              have HAD : Hid (Lib.strCells (txt X ++ ByteArray.mk #[10]) = Lib.byteCells (X ++ [10]) ∧ (txt X ++ ByteArray.mk #[10]).size ≤ 77) := Lib.hid (by
                rw [show ByteArray.mk #[10] = txt [10] from rfl, txt_app]
                exact ⟨strCells_txt _, by rw [txt_size, List.length_append, List.length_cons, List.length_nil]; omega⟩)
              have kb1 : Kp wr (wr.alloc (.cells #[.string nm, .slice Ac nk cc, .int .i64 sh, .int .i64 hg, .bool bl] 85)) := (Kp.refl wr).alloc _
              have HRD := Lib.hid (hrd.keep kb1)
              have HP1 := Lib.hid (HP.out.keep kb1)
              clear hc hx hkl hsm hln hrd hX2
              go_wp2_with fail
              refine (CX.out _ HRD.out HP1.out).mono ?_
              rintro e3 w3 ⟨rfl, k3⟩
              have k03 := kb1.trans k3
              have HB3 := Lib.hid (isBuilder_keep HBu.out k03)
              have hz3 : w1.heap.size < w3.heap.size := by have := k03.size; omega
              clear k3 kb1
              go_wp2_with fail
              refine (writeString_any w1.heap.size w1.heap.size _ _ _ HB3.out (by rw [Lib.byteCells_length]; have := HBL.out; have := HAD.out.2; omega) (by omega)).mono ?_
              rintro e4 w4 ⟨⟨r4, rfl⟩, hb4, kb4⟩
              have HB4 : Hid (Lib.IsBuilder 70 5 w1.heap.size w1.heap.size (Lib.byteCells (H2 ++ tersT (l.take (u + 1)))) w4) := Lib.hid (by rw [HM.out, ← List.append_assoc, Lib.byteCells_append, ← HAD.out.1]; exact .inr hb4)
              have kb5 : Below w1.heap.size WB w4 := Below.trans (Below.trans kbl (Below.mono k03 (by omega))) kb4
              have hz4 : w1.heap.size < w4.heap.size := by have := kb4.size; omega
              clear hb4 kb4
              go_wp2_with fail
              go_roundw
              case rel => exact ⟨u + 1, by omega, by go_num, HB4, hz4, kb5⟩
              case measure => simp [intOf]; omega
            · have hge3 : ¬ (u : Int) < nt := by omega
              have HBE : Hid (Lib.IsBuilder 70 5 w1.heap.size w1.heap.size (Lib.byteCells (rulTx ⟨l, m, a, b, c, d, e⟩)) wr) := Lib.hid (by
                have h1 := HBu.out
                rw [List.take_of_length_le (by rw [HLT.out]; omega)] at h1
                rw [HR.out]
                exact h1)
              clear HBu
              go_wp2_with fail
              refine (Tryz.Builder_String_any w1.heap.size w1.heap.size _ _ HBE.out (by omega)).mono ?_
              rintro e3 w3 ⟨rfl, k3⟩
              go_wp2_with fail
              go_ret2
              exact ⟨rfl, Below.trans kr (Below.mono k3 (by omega))⟩

set_option maxRecDepth 100000 in
theorem implRulesText_no (At Ak : Option Addr) (nt nk ct ck : Nat) (l : List Ter) (m : List Knd) (a b c d e : Int) (w : World) (hs : SpL w) (h : RulAt w At Ak nt nk l m) (hok : rulOk ⟨l, m, a, b, c, d, e⟩ = false) :
    Calls Tryz.prog 16 #[rv (.slice At nt ct) (.slice Ak nk ck) a b c d e] w fun e' w' => e' = .returned (.tuple #[.string ⟨#[]⟩, .bool false]) ∧ Kp w w' := by
  have KA : Kp w (w.alloc (.cells #[.slice At nt ct, .slice Ak nk ck, .int .i64 a, .int .i64 b, .int .i64 c, .int .i64 d, .int .i64 e] 37)) := (Kp.refl w).alloc _
  have HL := Lib.hid (h.keep KA)
  have HS := Lib.hid (hs.sp.sp.keep KA)
  have CG : Hid (∀ w, Spans w → RulAt w At Ak nt nk l m → Calls Tryz.prog 32 #[rv (.slice At nt ct) (.slice Ak nk ck) a b c d e] w fun e' w' => e' = .returned (.bool false) ∧ Kp w w') := Lib.hid (fun w hs h => by
    have := isRules_any At Ak nt nk ct ck l m a b c d e w hs h
    rw [hok] at this
    exact this)
  clear h hs hok
  go_enter Tryz.func16, Tryz.ntmps16
  go_wp2_with fail
  refine (CG.out _ HS.out HL.out).mono ?_
  rintro e1 w1 ⟨rfl, k1⟩
  go_wp2_with fail
  go_ret2
  exact ⟨rfl, KA.trans k1⟩

end Go.Proofs.YtmolpkjdjkhnpabGreatDoor

/-
  MapText of the program. The named variables hold what the program's text lays.
-/
namespace Go.Proofs.YtmolpkjdjkhnpabGreatDoor
open Go.RowKit

theorem gT_row (n : Nat) (hn : 1 ≤ n) (l : List Int) (q : Nat) (hl : q * n + n ≤ l.length) : ∀ k, k ≤ n → gT n l (q * n + k) = gT n l (q * n) ++ digs ((l.drop (q * n)).take k) ++ (if k = n then [10] else [])
  | 0, _ => by rw [if_neg (by omega)]; simp [digs]
  | k + 1, hk => by
    obtain ⟨x, hx⟩ : ∃ x, l[q * n + k]? = some x := ⟨l[q * n + k]'(by omega), List.getElem?_eq_getElem _⟩
    have ih := gT_row n hn l q hl k (by omega)
    have hd : (l.drop (q * n))[k]? = some x := by rw [List.getElem?_drop]; exact hx
    have hm : (q * n + k) % n = k := by rw [Nat.mul_comm, Nat.mul_add_mod]; exact Nat.mod_eq_of_lt (by omega)
    rw [← Nat.add_assoc, gT_more hx, ih, if_neg (by omega), digs_more hd, hm, List.append_nil, List.append_assoc (gT n l (q * n))]
    by_cases e : k = n - 1
    · rw [if_pos e, if_pos (by omega)]
    · rw [if_neg e, if_neg (by omega)]

/-- The lines of edges, as far as the p-th list. -/
def eT (lr ld : List Int) : Nat → List UInt8
  | 0 => []
  | 1 => [114, 105, 118, 101, 114, 115] ++ numsT lr ++ [10]
  | _ => [114, 105, 118, 101, 114, 115] ++ numsT lr ++ [10] ++ ([114, 111, 97, 100, 115] ++ numsT ld ++ [10])
/-- The names of the lists of edges, as the program's text lays them. -/
def edgW : List (List UInt8) := [[114, 105, 118, 101, 114, 115], [114, 111, 97, 100, 115]]
def EdgAt (w : World) : Prop := ∀ (j : Nat) nm, edgW[j]? = some nm → w.cell? ⟨1, j, none⟩ = some (.string (txt nm))
theorem EdgAt.keep {w w' : World} (h : EdgAt w) (k : Kp w w') : EdgAt w' := fun j nm hj => k.cell (h j nm hj)
structure SpM (w : World) : Prop where
  tab : Tab w
  pow : PowAt w
  edg : EdgAt w
theorem SpM.keep {w w' : World} (h : SpM w) (k : Kp w w') : SpM w' := ⟨h.tab.keep k, h.pow.keep k, h.edg.keep k⟩
set_option maxRecDepth 100000 in
theorem idx2 (x y : Value) (q : Nat) (w : World) (h : q < 2) : Sem.run Tryz.prog (Instr.index 89 (.agg #[x, y]) (.int .i64 (q : Int))) w = .ok (if q = 0 then x else y) w := by
  have hq : q = 0 ∨ q = 1 := by omega
  rcases hq with rfl | rfl <;> rfl
theorem numbersLine_nm (nm : List UInt8) (v : Value) (ns : List Int) (w : World) (hr : RdI w v ns) (hn : ns.length ≤ 1048576) (hb : ∀ x ∈ ns, 0 ≤ x ∧ x < 1000) (hp : PowAt w) (hl : nm.length ≤ 100) :
    Calls Tryz.prog 35 #[.string (txt nm), v] w fun e w' => e = .returned (.string (txt (nm ++ numsT ns ++ [10]))) ∧ Kp w w' := by
  have hd : (txt nm).data.toList = nm := by simp [txt]
  have := numbersLine_any (txt nm) v ns w hr hn (fun x hx w' k => itoa_any x w' (by have := hb x hx; omega) (by have := hb x hx; omega) (hp.keep k)) (by
    rw [hd, List.length_append]
    have := numsT_len ns hb
    omega)
  rw [hd] at this
  exact this

set_option maxRecDepth 100000 in
set_option maxHeartbeats 16000000 in
theorem implMapText_yes (n h : Nat) (At Ar Ad : Option Addr) (nt ct nr cr nd cd : Nat) (lt lr ld : List Int) (w : World) (hs : SpM w) (hL : Lists w (.slice At nt ct) (.slice Ar nr cr) (.slice Ad nd cd) lt lr ld) (hc1 : nt ≤ ct) (hc2 : ct ≤ 9223372036854775807) (hok : mapOk n h lt lr ld = true)
    (h1 : 1 ≤ n ∧ n ≤ 10) (h2 : 1 ≤ h ∧ h ≤ 10) (hA : lt.length = h * n) (htb : ∀ x ∈ lt, 0 ≤ x ∧ x < 100) (hrb : ∀ x ∈ lr, 0 ≤ x ∧ x < 1000) (hdb : ∀ x ∈ ld, 0 ≤ x ∧ x < 1000) :
    Calls Tryz.prog 17 #[mp n h (.slice At nt ct) (.slice Ar nr cr) (.slice Ad nd cd)] w fun e w' => e = .returned (.tuple #[.string (txt (mapTx n h lt lr ld)), .bool true]) ∧ Kp w w' := by
  have KA : Kp w (w.alloc (.cells #[.int .i64 (n : Int), .int .i64 (h : Int), .slice At nt ct, .slice Ar nr cr, .slice Ad nd cd] 38)) := (Kp.refl w).alloc _
  have s0 : (w.alloc (.cells #[.int .i64 (n : Int), .int .i64 (h : Int), .slice At nt ct, .slice Ar nr cr, .slice Ad nd cd] 38)).cell? ⟨w.heap.size, 0, none⟩ = some (.int .i64 (n : Int)) ∧ (w.alloc (.cells #[.int .i64 (n : Int), .int .i64 (h : Int), .slice At nt ct, .slice Ar nr cr, .slice Ad nd cd] 38)).cell? ⟨w.heap.size, 1, none⟩ = some (.int .i64 (h : Int)) ∧ (w.alloc (.cells #[.int .i64 (n : Int), .int .i64 (h : Int), .slice At nt ct, .slice Ar nr cr, .slice Ad nd cd] 38)).cell? ⟨w.heap.size, 2, none⟩ = some (.slice At nt ct) ∧ (w.alloc (.cells #[.int .i64 (n : Int), .int .i64 (h : Int), .slice At nt ct, .slice Ar nr cr, .slice Ad nd cd] 38)).cell? ⟨w.heap.size, 3, none⟩ = some (.slice Ar nr cr) ∧ (w.alloc (.cells #[.int .i64 (n : Int), .int .i64 (h : Int), .slice At nt ct, .slice Ar nr cr, .slice Ad nd cd] 38)).cell? ⟨w.heap.size, 4, none⟩ = some (.slice Ad nd cd) := ⟨by simp [go_sem], by simp [go_sem], by simp [go_sem], by simp [go_sem], by simp [go_sem]⟩
  have CG := isMap_any n h (.slice At nt ct) (.slice Ar nr cr) (.slice Ad nd cd) lt lr ld _ (hs.tab.keep KA) (hL.keep KA)
  rw [hok] at CG
  have HCG := Lib.hid CG
  have HS := Lib.hid hs
  have e1 : lt.length = nt := by obtain ⟨A, c, e, _⟩ := hL.rt; injection e with _ e2 _; exact e2.symm
  obtain ⟨A', c', e', hAt⟩ := hL.rt
  injection e' with e3 e4 e5
  subst e3
  obtain ⟨g, off, rfl, hc⟩ := hAt (by rw [hA]; exact Nat.mul_pos (by omega) (by omega))
  have HC := Lib.hid hc
  have HRR := Lib.hid hL.rr
  have HRD := Lib.hid hL.rd
  have l2 := hL.br
  have l3 := hL.bd
  have HTB := Lib.hid htb
  have HRB := Lib.hid hrb
  have HDB := Lib.hid hdb
  have hnt : nt = h * n := by omega
  have hnt2 : nt ≤ 100 := by rw [hnt]; exact Nat.le_trans (Nat.mul_le_mul h2.2 h1.2) (by decide)
  have HNT := Lib.hid hnt
  have HE1 := Lib.hid e1
  have HGL := Lib.hid (gT_len n lt htb)
  obtain ⟨HD, hHD⟩ : ∃ y, y = [109, 97, 112] ++ numsT [(n : Int), h] ++ [10] := ⟨_, rfl⟩
  have HDL : Hid (HD.length ≤ 20) := Lib.hid (by
    have := numsT_len [(n : Int), h] (fun x hx => by simp only [List.mem_cons, List.not_mem_nil, or_false] at hx; omega)
    rw [hHD, List.length_append, List.length_append]
    simp only [List.length_cons, List.length_nil] at this ⊢
    omega)
  have HR : Hid (mapTx n h lt lr ld = HD ++ gT n lt nt ++ ([114, 105, 118, 101, 114, 115] ++ numsT lr ++ [10]) ++ ([114, 111, 97, 100, 115] ++ numsT ld ++ [10])) := Lib.hid (by
    rw [hHD, ← e1]
    unfold mapTx
    rw [show numsT [(n : Int), h] = 32 :: Lib.itoa n ++ (32 :: Lib.itoa h) by simp [numsT], itoa_pos (by omega), itoa_pos (by omega)]
    simp)
  have hn1 := h1.1
  have hn2 := h1.2
  have hh1 := h2.1
  have hh2 := h2.2
  have CM : Hid (∀ W g, PowAt W → W.cell? ⟨g, 0, none⟩ = some (.int .i64 (n : Int)) → W.cell? ⟨g, 1, none⟩ = some (.int .i64 (h : Int)) → Calls Tryz.prog 35 #[.string (ByteArray.mk #[109, 97, 112]), .slice (some ⟨g, 0, none⟩) 2 2] W fun e w' => e = .returned (.string (txt HD)) ∧ Kp W w') := Lib.hid (fun W g hp c0 c1 => by
    rw [hHD]
    refine numbersLine_nm [109, 97, 112] (.slice (some ⟨g, 0, none⟩) 2 2) [(n : Int), h] W ⟨_, _, rfl, fun _ => ⟨_, _, rfl, fun i y hy => ?_⟩⟩ (by simp) (fun x hx => by simp only [List.mem_cons, List.not_mem_nil, or_false] at hx; omega) hp (by decide)
    match i, hy with
    | 0, hy => simp only [List.getElem?_cons_zero, Option.some.injEq] at hy; subst hy; exact c0
    | 1, hy => simp only [List.getElem?_cons_zero, List.getElem?_cons_succ, Option.some.injEq] at hy; subst hy; exact c1
    | i + 2, hy => simp at hy)
  clear hs hL hok h1 h2 hA htb hrb hdb CG e1 hAt hc e4 e5 hHD hnt
  go_enter Tryz.func17, Tryz.ntmps17
  go_wp2_with fail
  refine HCG.out.mono ?_
  rintro e1 w1 ⟨rfl, k1⟩
  have K1 := KA.trans k1
  have hz1 : w.heap.size < w1.heap.size := by have := k1.size; simp at this; omega
  have kb1 : Kp w1 (w1.alloc (.cells #[.pointer none, .slice none 0 0] 70)) := (Kp.refl w1).alloc _
  have s2 : (w1.alloc (.cells #[.pointer none, .slice none 0 0] 70)).cell? ⟨w.heap.size, 0, none⟩ = some (.int .i64 (n : Int)) ∧ (w1.alloc (.cells #[.pointer none, .slice none 0 0] 70)).cell? ⟨w.heap.size, 1, none⟩ = some (.int .i64 (h : Int)) ∧ (w1.alloc (.cells #[.pointer none, .slice none 0 0] 70)).cell? ⟨w.heap.size, 2, none⟩ = some (.slice (some ⟨g, off, none⟩) nt ct) ∧ (w1.alloc (.cells #[.pointer none, .slice none 0 0] 70)).cell? ⟨w.heap.size, 3, none⟩ = some (.slice Ar nr cr) ∧ (w1.alloc (.cells #[.pointer none, .slice none 0 0] 70)).cell? ⟨w.heap.size, 4, none⟩ = some (.slice Ad nd cd) := ⟨kb1.cell (k1.cell s0.1), kb1.cell (k1.cell s0.2.1), kb1.cell (k1.cell s0.2.2.1), kb1.cell (k1.cell s0.2.2.2.1), kb1.cell (k1.cell s0.2.2.2.2)⟩
  have F0 := Lib.hid (Lib.fresh_isBuilder 70 5 w1)
  have KB := K1.trans kb1
  clear s0 k1 KA HCG
  obtain ⟨t0, t1, t2, t3, t4⟩ := s2
  go_wp2_with fail
  generalize hWB : w1.alloc (.cells #[.pointer none, .slice none 0 0] 70) = WB at *
  have hzB : WB.heap.size = w1.heap.size + 1 := by rw [← hWB]; simp
  clear hWB
  have kx : Kp WB (WB.alloc (.cells #[.int .i64 (n : Int), .int .i64 (h : Int)] 3)) := (Kp.refl WB).alloc _
  have hcm0 : (WB.alloc (.cells #[.int .i64 (n : Int), .int .i64 (h : Int)] 3)).cell? ⟨w1.heap.size + 1, 0, none⟩ = some (.int .i64 (n : Int)) := by rw [← hzB]; simp [go_sem]
  have hcm1 : (WB.alloc (.cells #[.int .i64 (n : Int), .int .i64 (h : Int)] 3)).cell? ⟨w1.heap.size + 1, 1, none⟩ = some (.int .i64 (h : Int)) := by rw [← hzB]; simp [go_sem]
  refine (CM.out (WB.alloc (.cells #[.int .i64 (n : Int), .int .i64 (h : Int)] 3)) (w1.heap.size + 1) ((HS.out.pow.keep KB).keep kx) hcm0 hcm1).mono ?_
  rintro e2 w2 ⟨rfl, k2⟩
  have k02 := kx.trans k2
  have F2 := Lib.hid (isBuilder_keep F0.out k02)
  have hz2 : w1.heap.size < w2.heap.size := by have := k02.size; omega
  have HSTR : Hid (Lib.strCells (txt HD) = Lib.byteCells HD ∧ (txt HD).size ≤ 20) := Lib.hid ⟨strCells_txt _, by rw [txt_size]; exact HDL.out⟩
  clear k2 kx F0
  go_wp2_with fail
  refine (writeString_any w1.heap.size w1.heap.size _ _ _ F2.out (by have := HSTR.out.2; simp only [List.length_nil]; omega) (by omega)).mono ?_
  rintro e3 w3 ⟨⟨r3, rfl⟩, hb3, kb3⟩
  have F3 : Hid (Lib.IsBuilder 70 5 w1.heap.size w1.heap.size (Lib.byteCells (HD ++ gT n lt (0 * n))) w3) := Lib.hid (by
    rw [Nat.zero_mul]
    simp only [gT, List.append_nil]
    rw [← HSTR.out.1]
    exact .inr (by simpa using hb3))
  have KBL : Below w1.heap.size WB w3 := Below.trans (Below.mono k02 (by omega)) kb3
  have hz3 : w1.heap.size < w3.heap.size := by have := kb3.size; omega
  have HS2 := Lib.hid (And.intro t0 (And.intro t1 (And.intro t2 (And.intro t3 t4))))
  have u0 : w3.cell? ⟨w.heap.size, 0, none⟩ = some (.int .i64 (n : Int)) := (KBL.cell (show w.heap.size < w1.heap.size from hz1)).trans t0
  have u1 : w3.cell? ⟨w.heap.size, 1, none⟩ = some (.int .i64 (h : Int)) := (KBL.cell (show w.heap.size < w1.heap.size from hz1)).trans t1
  clear hb3 kb3 k02 F2 t0 t1 t2 t3 t4
  go_wp2_with fail
  go_loopw [5, 20] (fun _ i wr => ∃ q : Nat, q ≤ h ∧ i = .int .i64 q ∧ Hid (Lib.IsBuilder 70 5 w1.heap.size w1.heap.size (Lib.byteCells (HD ++ gT n lt (q * n))) wr) ∧ w1.heap.size < wr.heap.size ∧ Below w1.heap.size WB wr) (fun _ i _ => h - (intOf i).toNat)
  case atStart => exact ⟨0, by omega, rfl, F3, hz3, KBL⟩
  case round =>
    clear F3 KBL hz3 u0 u1
    obtain ⟨q, hq, rfl, HBu, hzr, kbl⟩ := hrel
    have kr : Kp w wr := Below.trans KB (Below.mono kbl (Nat.le_of_lt hz1))
    obtain ⟨t0, t1, t2, t3, t4⟩ : wr.cell? ⟨w.heap.size, 0, none⟩ = some (.int .i64 (n : Int)) ∧ wr.cell? ⟨w.heap.size, 1, none⟩ = some (.int .i64 (h : Int)) ∧ wr.cell? ⟨w.heap.size, 2, none⟩ = some (.slice (some ⟨g, off, none⟩) nt ct) ∧ wr.cell? ⟨w.heap.size, 3, none⟩ = some (.slice Ar nr cr) ∧ wr.cell? ⟨w.heap.size, 4, none⟩ = some (.slice Ad nd cd) := ⟨(kbl.cell (show w.heap.size < w1.heap.size from hz1)).trans HS2.out.1, (kbl.cell (show w.heap.size < w1.heap.size from hz1)).trans HS2.out.2.1, (kbl.cell (show w.heap.size < w1.heap.size from hz1)).trans HS2.out.2.2.1, (kbl.cell (show w.heap.size < w1.heap.size from hz1)).trans HS2.out.2.2.2.1, (kbl.cell (show w.heap.size < w1.heap.size from hz1)).trans HS2.out.2.2.2.2⟩
    by_cases hlt : q < h
    · have hlt' : (q : Int) < h := by omega
      have hrow : q * n + n ≤ nt := by
        have h3 : (q + 1) * n ≤ h * n := Nat.mul_le_mul_right _ (by omega)
        rw [Nat.add_mul, Nat.one_mul] at h3
        rw [HNT.out]
        exact h3
      have HROW := Lib.hid (gT_row n hn1 lt q (by rw [HE1.out]; exact hrow) n (Nat.le_refl _))
      have HNX : Hid ((q + 1) * n = q * n + n) := Lib.hid (by rw [Nat.add_mul, Nat.one_mul])
      obtain ⟨lo, hlo⟩ : ∃ lo, q * n = lo := ⟨_, rfl⟩
      have m1 : (q : Int) * (n : Int) = (lo : Int) := by rw [← hlo]; exact (Int.natCast_mul q n).symm
      have m2 : ((q : Int) + 1) * (n : Int) = ((lo + n : Nat) : Int) := by rw [Int.add_mul, m1, Int.one_mul]; omega
      rw [hlo] at hrow HROW HNX HBu
      obtain ⟨row, hrw⟩ : ∃ row, row = (lt.drop lo).take n := ⟨_, rfl⟩
      have hrl : row.length = n := by rw [hrw, List.length_take, List.length_drop, HE1.out]; omega
      rw [← hrw] at HROW
      have HRDW : Hid (∀ c, RdI wr (.slice (some ⟨g, off + lo, none⟩) n c) row) := Lib.hid (fun c => ⟨_, _, by rw [hrl], fun _ => ⟨_, _, rfl, fun i x hx => by
        rw [hrw, List.getElem?_take] at hx
        split at hx
        · rw [List.getElem?_drop] at hx
          have := kr.cell (HC.out _ x hx)
          rw [Nat.add_assoc]
          exact this
        · cases hx⟩⟩)
      have CD : Hid (∀ c, Calls Tryz.prog 40 #[.slice (some ⟨g, off + lo, none⟩) n c] wr fun e w' => e = .returned (.string (txt (digs row ++ [10]))) ∧ Kp wr w') := Lib.hid (fun c => digitsLine_any _ row wr (HRDW.out c) (by omega) (fun x hx => HTB.out x (by rw [hrw] at hx; exact List.mem_of_mem_drop (List.mem_of_mem_take hx))))
      have HDG : Hid ((digs row).length ≤ 2 * n) := Lib.hid (by
        have := digs_len row (fun x hx => HTB.out x (by rw [hrw] at hx; exact List.mem_of_mem_drop (List.mem_of_mem_take hx)))
        rw [hrl] at this
        exact this)
      obtain ⟨X, hX⟩ : ∃ X, digs row ++ [10] = X := ⟨_, rfl⟩
      have HX : Hid (Lib.strCells (txt X) = Lib.byteCells X ∧ (txt X).size ≤ 21) := Lib.hid ⟨strCells_txt _, by rw [txt_size, ← hX, List.length_append]; have := HDG.out; simp only [List.length_cons, List.length_nil]; omega⟩
      have HTX : Hid (HD ++ gT n lt ((q + 1) * n) = (HD ++ gT n lt lo) ++ X) := Lib.hid (by rw [HNX.out, HROW.out, if_pos rfl, ← hX]; simp)
      have HBL : Hid ((HD ++ gT n lt lo).length ≤ 320) := Lib.hid (by rw [List.length_append]; have := HDL.out; have := HGL.out lo; omega)
      rw [hX] at CD
      have n1 : ¬ ct - lo = 0 := by omega
      have n2 : ¬ ct = lo := by omega
      have n3 : lo + n ≤ ct := by omega
      have n4 : lo ≤ ct := by omega
      have n5 : lo ≤ lo + n := by omega
      have n6 : lo + n - lo = n := by omega
      clear hrw hrl hX HRDW hlo
      go_wp2_with fail
      refine (CD.out _).mono ?_
      rintro e4 w4 ⟨rfl, k4⟩
      have HB4 := Lib.hid (isBuilder_keep HBu.out k4)
      have hz4 : w1.heap.size < w4.heap.size := by have := k4.size; omega
      have kbl4 : Below w1.heap.size WB w4 := Below.trans kbl (Below.mono k4 (by omega))
      clear k4 HBu
      go_wp2_with fail
      refine (writeString_any w1.heap.size w1.heap.size _ _ _ HB4.out (by rw [Lib.byteCells_length]; have := HBL.out; have := HX.out.2; omega) (by omega)).mono ?_
      rintro e5 w5 ⟨⟨r5, rfl⟩, hb5, kb5⟩
      have HB5 : Hid (Lib.IsBuilder 70 5 w1.heap.size w1.heap.size (Lib.byteCells (HD ++ gT n lt ((q + 1) * n))) w5) := Lib.hid (by rw [HTX.out, Lib.byteCells_append, ← HX.out.1]; exact .inr hb5)
      have kbl5 : Below w1.heap.size WB w5 := Below.trans kbl4 kb5
      have hz5 : w1.heap.size < w5.heap.size := by have := kb5.size; omega
      clear hb5 kb5
      go_wp2_with fail
      go_roundw
      case rel => exact ⟨q + 1, by omega, by go_num, HB5, hz5, kbl5⟩
      case measure => simp [intOf]; omega
    · have HQH := Lib.hid (show q = h by omega)
      have hge : ¬ (q : Int) < h := by omega
      have HB0 : Hid (Lib.IsBuilder 70 5 w1.heap.size w1.heap.size (Lib.byteCells (HD ++ gT n lt nt ++ eT lr ld 0)) wr) := Lib.hid (by
        have h3 := HBu.out
        rw [HQH.out, ← HNT.out] at h3
        simpa [eT] using h3)
      have HL1 : Hid ((HD ++ gT n lt nt).length ≤ 320) := Lib.hid (by rw [List.length_append]; have := HDL.out; have := HGL.out nt; omega)
      obtain ⟨H1, hH1⟩ : ∃ y, y = HD ++ gT n lt nt := ⟨_, rfl⟩
      rw [← hH1] at HB0 HL1 HR
      have HR2 : Hid (mapTx n h lt lr ld = H1 ++ eT lr ld 2) := Lib.hid (by rw [HR.out]; simp [eT])
      clear hH1 HBu
      go_wp2_with fail
      refine (edgeListsOf_any _ _ _ _ _ _ _ _ _ _).mono ?_
      rintro e4 w4 ⟨rfl, k4⟩
      have HB4 := Lib.hid (isBuilder_keep HB0.out k4)
      have hz4 : w1.heap.size < w4.heap.size := by have := k4.size; omega
      have kbl4 : Below w1.heap.size WB w4 := Below.trans kbl (Below.mono k4 (by omega))
      clear k4 HB0 t0 t1 t2 t3 t4 kbl kr hzr
      go_wp2_with fail
      go_loopw [6, 7, 40] (fun _ _ i wr => ∃ p : Nat, p ≤ 2 ∧ i = .int .i64 p ∧ Hid (Lib.IsBuilder 70 5 w1.heap.size w1.heap.size (Lib.byteCells (H1 ++ eT lr ld p)) wr) ∧ w1.heap.size < wr.heap.size ∧ Below w1.heap.size WB wr) (fun _ _ i _ => 2 - (intOf i).toNat)
      case atStart => exact ⟨0, by omega, rfl, HB4, hz4, kbl4⟩
      case round =>
        clear HB4 hz4 kbl4 hge
        obtain ⟨p, hp, rfl, HBu, hzr, kbl⟩ := hrel
        have kr : Kp w wr := Below.trans KB (Below.mono kbl (Nat.le_of_lt hz1))
        by_cases hlt : p < 2
        · have hlt' : (p : Int) < 2 := by omega
          have hix := idx2 (.slice Ar nr cr) (.slice Ad nd cd) p wr hlt
          obtain ⟨nm, hnm, hnl⟩ : ∃ nm, edgW[p]? = some nm ∧ nm.length ≤ 6 := by
            match p, hlt with
            | 0, _ => exact ⟨_, rfl, by decide⟩
            | 1, _ => exact ⟨_, rfl, by decide⟩
          obtain ⟨ns, hns⟩ : ∃ ns, ns = if p = 0 then lr else ld := ⟨_, rfl⟩
          have HST : Hid (eT lr ld (p + 1) = eT lr ld p ++ (nm ++ numsT ns ++ [10])) := Lib.hid (by
            match p, hlt, hnm, hns with
            | 0, _, hnm, hns => simp [edgW] at hnm; subst hnm; subst hns; simp [eT]
            | 1, _, hnm, hns => simp [edgW] at hnm; subst hnm; subst hns; simp [eT])
          have hnb : (∀ x ∈ ns, 0 ≤ x ∧ x < 1000) ∧ ns.length ≤ 1048576 := by
            rw [hns]
            split
            · exact ⟨HRB.out, l2⟩
            · exact ⟨HDB.out, l3⟩
          obtain ⟨v, hv⟩ : ∃ v, (if p = 0 then Value.slice Ar nr cr else Value.slice Ad nd cd) = v := ⟨_, rfl⟩
          have hrd : RdI wr v ns := by
            rw [← hv, hns]
            split
            · exact HRR.out.keep kr
            · exact HRD.out.keep kr
          rw [hv] at hix
          have CN := Lib.hid (numbersLine_nm nm v ns wr hrd hnb.2 hnb.1 (HS.out.pow.keep kr) (by omega))
          have HNL : Hid ((numsT ns).length ≤ 4 * 1048576) := Lib.hid (by have := numsT_len ns hnb.1; have := hnb.2; omega)
          obtain ⟨X, hX⟩ : ∃ X, nm ++ numsT ns ++ [10] = X := ⟨_, rfl⟩
          have HX : Hid (Lib.strCells (txt X) = Lib.byteCells X ∧ (txt X).size ≤ 7 + 4 * 1048576) := Lib.hid ⟨strCells_txt _, by rw [txt_size, ← hX, List.length_append, List.length_append]; have := HNL.out; simp only [List.length_cons, List.length_nil]; omega⟩
          rw [hX] at HST CN
          have HBL : Hid ((H1 ++ eT lr ld p).length ≤ 320 + 7 + 4 * 1048576) := Lib.hid (by
            rw [List.length_append]
            have h3 := HL1.out
            have h4 := numsT_len lr HRB.out
            match p, hlt with
            | 0, _ => simp [eT]; omega
            | 1, _ => simp only [eT, List.length_append, List.length_cons, List.length_nil]; omega)
          have a0 := kr.cell (HS.out.edg p nm hnm)
          clear hnm hns hnb hrd hX hv
          go_wp2_with fail
          refine CN.out.mono ?_
          rintro e4 w4 ⟨rfl, k4⟩
          have HB4 := Lib.hid (isBuilder_keep HBu.out k4)
          have hz4 : w1.heap.size < w4.heap.size := by have := k4.size; omega
          have kbl4 : Below w1.heap.size WB w4 := Below.trans kbl (Below.mono k4 (by omega))
          clear k4 HBu
          go_wp2_with fail
          refine (writeString_any w1.heap.size w1.heap.size _ _ _ HB4.out (by rw [Lib.byteCells_length]; have := HBL.out; have := HX.out.2; omega) (by omega)).mono ?_
          rintro e5 w5 ⟨⟨r5, rfl⟩, hb5, kb5⟩
          have HB5 : Hid (Lib.IsBuilder 70 5 w1.heap.size w1.heap.size (Lib.byteCells (H1 ++ eT lr ld (p + 1))) w5) := Lib.hid (by rw [HST.out, ← List.append_assoc, Lib.byteCells_append, ← HX.out.1]; exact .inr hb5)
          have kbl5 : Below w1.heap.size WB w5 := Below.trans kbl4 kb5
          have hz5 : w1.heap.size < w5.heap.size := by have := kb5.size; omega
          clear hb5 kb5
          go_wp2_with fail
          go_roundw
          case rel => exact ⟨p + 1, by omega, by go_num, HB5, hz5, kbl5⟩
          case measure => simp [intOf]; omega
        · have HP2 := Lib.hid (show p = 2 by omega)
          have hge2 : ¬ (p : Int) < 2 := by omega
          have HBE : Hid (Lib.IsBuilder 70 5 w1.heap.size w1.heap.size (Lib.byteCells (mapTx n h lt lr ld)) wr) := Lib.hid (by
            have h3 := HBu.out
            rw [HP2.out] at h3
            rw [HR2.out]
            exact h3)
          clear HBu
          go_wp2_with fail
          refine (Tryz.Builder_String_any w1.heap.size w1.heap.size _ _ HBE.out (by omega)).mono ?_
          rintro e6 w6 ⟨rfl, k6⟩
          go_wp2_with fail
          go_ret2
          exact ⟨rfl, Below.trans kr (Below.mono k6 (by omega))⟩

end Go.Proofs.YtmolpkjdjkhnpabGreatDoor
