/-
  Texts of this seat in one module: BfT, RuS, MpU.
-/
import Derived.Test.YtmolpkjdjkhnpabGreatDoorQc
import Derived.Test.YtmolpkjdjkhnpabGreatDoorQe

/-
  The text of rules, as the reference writes it.
-/
namespace Go.Proofs.YtmolpkjdjkhnpabGreatDoor
open Go.RowKit

set_option maxRecDepth 100000 in
theorem bfLimits_any (w : World) : Calls Tryz.prog 53 #[] w fun e w' => ∃ g, e = .returned (.slice (some ⟨g, 0, none⟩) 5 5) ∧ (∀ (j : Nat) nm, limW[j]? = some nm → w'.cell? ⟨g, j, none⟩ = some (.string (txt nm))) ∧ Kp w w' := by
  go_enter Tryz.func53, Tryz.ntmps53
  go_wp2_with fail
  go_ret
  refine ⟨_, rfl, fun j nm hj => ?_, (Kp.refl w).alloc _⟩
  unfold limW at hj
  match j, hj with
  | 0, hj => simp only [List.getElem?_cons_zero, Option.some.injEq] at hj; subst hj; simp [go_sem, txt]
  | 1, hj => simp only [List.getElem?_cons_zero, List.getElem?_cons_succ, Option.some.injEq] at hj; subst hj; simp [go_sem, txt]
  | 2, hj => simp only [List.getElem?_cons_zero, List.getElem?_cons_succ, Option.some.injEq] at hj; subst hj; simp [go_sem, txt]
  | 3, hj => simp only [List.getElem?_cons_zero, List.getElem?_cons_succ, Option.some.injEq] at hj; subst hj; simp [go_sem, txt]
  | 4, hj => simp only [List.getElem?_cons_zero, List.getElem?_cons_succ, Option.some.injEq] at hj; subst hj; simp [go_sem, txt]
  | j + 5, hj => simp at hj

set_option maxRecDepth 100000 in
theorem bfValues_any (x y : Value) (a b c d e : Int) (w : World) : Calls Tryz.prog 55 #[rv x y a b c d e] w fun e' w' => ∃ g, e' = .returned (.slice (some ⟨g, 0, none⟩) 5 5) ∧ (∀ (j : Nat) z, [a, b, c, d, e][j]? = some z → w'.cell? ⟨g, j, none⟩ = some (.int .i64 z)) ∧ Kp w w' := by
  go_enter Tryz.func55, Tryz.ntmps55
  go_wp2_with fail
  go_ret
  refine ⟨_, rfl, fun j nm hj => ?_, ((Kp.refl w).alloc _).alloc _⟩
  match j, hj with
  | 0, hj => simp only [List.getElem?_cons_zero, Option.some.injEq] at hj; subst hj; simp [go_sem]
  | 1, hj => simp only [List.getElem?_cons_zero, List.getElem?_cons_succ, Option.some.injEq] at hj; subst hj; simp [go_sem]
  | 2, hj => simp only [List.getElem?_cons_zero, List.getElem?_cons_succ, Option.some.injEq] at hj; subst hj; simp [go_sem]
  | 3, hj => simp only [List.getElem?_cons_zero, List.getElem?_cons_succ, Option.some.injEq] at hj; subst hj; simp [go_sem]
  | 4, hj => simp only [List.getElem?_cons_zero, List.getElem?_cons_succ, Option.some.injEq] at hj; subst hj; simp [go_sem]
  | j + 5, hj => simp at hj

set_option maxRecDepth 100000 in
set_option maxHeartbeats 16000000 in
theorem bfText_any (At Ak : Option Addr) (nt nk ct ck : Nat) (l : List Ter) (m : List Knd) (a b c d e : Int) (w : World) (h : RulAt w At Ak nt nk l m) (hok : rulOk ⟨l, m, a, b, c, d, e⟩ = true) :
    Calls Tryz.prog 26 #[rv (.slice At nt ct) (.slice Ak nk ck) a b c d e] w fun e' w' => e' = .returned (.string (txt (rulTx ⟨l, m, a, b, c, d, e⟩))) ∧ Kp w w' := by
  have KA : Kp w (w.alloc (.cells #[.slice At nt ct, .slice Ak nk ck, .int .i64 a, .int .i64 b, .int .i64 c, .int .i64 d, .int .i64 e] 37)) := (Kp.refl w).alloc _
  have s0 : (w.alloc (.cells #[.slice At nt ct, .slice Ak nk ck, .int .i64 a, .int .i64 b, .int .i64 c, .int .i64 d, .int .i64 e] 37)).cell? ⟨w.heap.size, 0, none⟩ = some (.slice At nt ct) ∧ (w.alloc (.cells #[.slice At nt ct, .slice Ak nk ck, .int .i64 a, .int .i64 b, .int .i64 c, .int .i64 d, .int .i64 e] 37)).cell? ⟨w.heap.size, 1, none⟩ = some (.slice Ak nk ck) ∧ (w.alloc (.cells #[.slice At nt ct, .slice Ak nk ck, .int .i64 a, .int .i64 b, .int .i64 c, .int .i64 d, .int .i64 e] 37)).cell? ⟨w.heap.size, 2, none⟩ = some (.int .i64 a) ∧ (w.alloc (.cells #[.slice At nt ct, .slice Ak nk ck, .int .i64 a, .int .i64 b, .int .i64 c, .int .i64 d, .int .i64 e] 37)).cell? ⟨w.heap.size, 3, none⟩ = some (.int .i64 b) ∧ (w.alloc (.cells #[.slice At nt ct, .slice Ak nk ck, .int .i64 a, .int .i64 b, .int .i64 c, .int .i64 d, .int .i64 e] 37)).cell? ⟨w.heap.size, 4, none⟩ = some (.int .i64 c) ∧ (w.alloc (.cells #[.slice At nt ct, .slice Ak nk ck, .int .i64 a, .int .i64 b, .int .i64 c, .int .i64 d, .int .i64 e] 37)).cell? ⟨w.heap.size, 5, none⟩ = some (.int .i64 d) ∧ (w.alloc (.cells #[.slice At nt ct, .slice Ak nk ck, .int .i64 a, .int .i64 b, .int .i64 c, .int .i64 d, .int .i64 e] 37)).cell? ⟨w.heap.size, 6, none⟩ = some (.int .i64 e) := ⟨by simp [go_sem], by simp [go_sem], by simp [go_sem], by simp [go_sem], by simp [go_sem], by simp [go_sem], by simp [go_sem]⟩
  have HT := Lib.hid h.rt.2
  have HKK := Lib.hid h.rk.2
  have hlt : l.length = nt := h.rt.1
  have hlk : m.length = nk := h.rk.1
  have hb := rulOk_len hok
  have hn1 : nt ≤ 6 := by omega
  have hn2 : nk ≤ 4 := by omega
  have HKS := Lib.hid (rulOk_knds hok)
  have HTS := Lib.hid (rulOk_ters hok)
  have hlim := rulOk_lim hok
  have HV : Hid (∀ x ∈ [a, b, c, d, e], 0 ≤ x ∧ x < 100) := Lib.hid (fun x hx => by
    simp only [List.mem_cons, List.not_mem_nil, or_false] at hx
    rcases hx with rfl | rfl | rfl | rfl | rfl <;> omega)
  have HVL := Lib.hid (limsT_len [a, b, c, d, e] (fun x hx => (HV.out x hx).2) rfl)
  have HKL := Lib.hid (fun (q : Nat) => kndsT_len (m.take q) (fun x hx => HKS.out x (List.mem_of_mem_take hx)))
  have HTL := Lib.hid (fun (q : Nat) => tersT_len m.length (by omega) (l.take q) (fun x hx => HTS.out x (List.mem_of_mem_take hx)))
  have HLT := Lib.hid hlt
  have HLK := Lib.hid hlk
  have CB := Lib.hid (fun w => bfValues_any (.slice At nt ct) (.slice Ak nk ck) a b c d e w)
  obtain ⟨vs, hvs⟩ : ∃ vs, vs = [a, b, c, d, e] := ⟨_, rfl⟩
  have hvl : vs.length = 5 := by rw [hvs]; rfl
  have HVLEN := Lib.hid hvl
  rw [← hvs] at HV HVL CB
  have HR : Hid (rulTx ⟨l, m, a, b, c, d, e⟩ = limsT vs 5 ++ kndsT m ++ tersT l) := Lib.hid (by rw [hvs]; rfl)
  clear h hok hlt hlk hb hlim hvs hvl
  go_enter Tryz.func26, Tryz.ntmps26
  go_wp2_with fail
  refine (bfLimits_any _).mono ?_
  rintro e1 w1 ⟨g1, rfl, hg1, k1⟩
  obtain ⟨t0, t1, t2, t3, t4, t5, t6⟩ := keepc7 k1 s0
  have HG1 := Lib.hid hg1
  have K1 := KA.trans k1
  clear s0 hg1 k1 KA
  go_wp2_with fail
  go_loopw [3, 4, 5, 12] (fun s _ _ i wr => ∃ (q : Nat) (z : ByteArray), q ≤ 5 ∧ i = .int .i64 q ∧ s = .string z ∧ Hid (z = txt (limsT vs q)) ∧ (wr.cell? ⟨w.heap.size, 0, none⟩ = some (.slice At nt ct) ∧ wr.cell? ⟨w.heap.size, 1, none⟩ = some (.slice Ak nk ck) ∧ wr.cell? ⟨w.heap.size, 2, none⟩ = some (.int .i64 a) ∧ wr.cell? ⟨w.heap.size, 3, none⟩ = some (.int .i64 b) ∧ wr.cell? ⟨w.heap.size, 4, none⟩ = some (.int .i64 c) ∧ wr.cell? ⟨w.heap.size, 5, none⟩ = some (.int .i64 d) ∧ wr.cell? ⟨w.heap.size, 6, none⟩ = some (.int .i64 e)) ∧ Kp w1 wr) (fun _ _ _ i _ => 5 - (intOf i).toNat)
  case atStart => exact ⟨0, _, by omega, rfl, rfl, Lib.hid (by simp [limsT, txt]), ⟨t0, t1, t2, t3, t4, t5, t6⟩, Kp.refl _⟩
  case round =>
    clear t0 t1 t2 t3 t4 t5 t6
    obtain ⟨q, z, hq, rfl, rfl, HZ, s1, kr⟩ := hrel
    have hz : z.size ≤ 50 := by
      have h1 := congrArg ByteArray.size HZ.out
      have h2 := HVL.out q hq
      rw [txt_size] at h1
      omega
    by_cases hlt : q < 5
    · have hlt' : (q : Int) < 5 := by omega
      obtain ⟨nm, hnm, hnl⟩ := limW_at hlt
      obtain ⟨x, hx⟩ : ∃ x, vs[q]? = some x := ⟨vs[q]'(by have := HVLEN.out; omega), List.getElem?_eq_getElem _⟩
      have a0 := kr.cell (HG1.out q nm hnm)
      have hx1 := HV.out x (List.mem_of_getElem? hx)
      obtain ⟨k, rfl⟩ : ∃ k : Nat, x = k := ⟨x.toNat, by omega⟩
      have HX := Lib.hid hx
      obtain ⟨sn, hsn⟩ : ∃ y, txt nm = y := ⟨_, rfl⟩
      have zsn : sn.size ≤ 6 := by rw [← hsn, txt_size]; exact hnl
      have CD := Lib.hid (fun w => l1Num_any k w (by omega))
      obtain ⟨sx, hsx⟩ : ∃ y, decT k = y := ⟨_, rfl⟩
      have zsx : sx.size ≤ 2 := by rw [← hsx, decT_txt, txt_size]; exact dec_len (by omega)
      rw [hsx] at CD
      rw [hsn] at a0
      obtain ⟨p1, hp1⟩ : ∃ y, sn ++ ByteArray.mk #[32] = y := ⟨_, rfl⟩
      have zp1 : p1.size ≤ 7 := by rw [← hp1, ByteArray.size_append]; have : (ByteArray.mk #[32]).size = 1 := rfl; omega
      obtain ⟨p2, hp2⟩ : ∃ y, p1 ++ sx = y := ⟨_, rfl⟩
      have zp2 : p2.size ≤ 9 := by rw [← hp2, ByteArray.size_append]; omega
      obtain ⟨p3, hp3⟩ : ∃ y, p2 ++ ByteArray.mk #[10] = y := ⟨_, rfl⟩
      have zp3 : p3.size ≤ 10 := by rw [← hp3, ByteArray.size_append]; have : (ByteArray.mk #[10]).size = 1 := rfl; omega
      have y1 : ¬ 9223372036854775807 < sn.size + 1 := by omega
      have y2 : ¬ 9223372036854775807 < p1.size + sx.size := by omega
      have y3 : ¬ 9223372036854775807 < p2.size + 1 := by omega
      have y4 : ¬ 9223372036854775807 < z.size + p3.size := by omega
      have HN2 : Hid (z ++ p3 = txt (limsT vs (q + 1))) := Lib.hid (by
        rw [limsT_more hnm hx, HZ.out, ← hp3, ← hp2, ← hp1, ← hsn, ← hsx, decT_txt, show ByteArray.mk #[32] = txt [32] from rfl, show ByteArray.mk #[10] = txt [10] from rfl, txt_app, txt_app, txt_app, txt_app]
        simp [limLine])
      obtain ⟨t0, t1, t2, t3, t4, t5, t6⟩ := s1
      clear hnm hx hx1 hsn hsx HZ hnl
      go_wp2_with fail
      refine (CB.out _).mono ?_
      rintro e2 w2 ⟨g2, rfl, hg2, k2⟩
      have b0 := hg2 q _ HX.out
      obtain ⟨u0, u1, u2, u3, u4, u5, u6⟩ := keepc7 k2 ⟨t0, t1, t2, t3, t4, t5, t6⟩
      have kr2 := kr.trans k2
      clear t0 t1 t2 t3 t4 t5 t6 hg2 k2 kr
      go_wp2_with fail
      refine (CD.out _).mono ?_
      rintro e3 w3 ⟨rfl, k3⟩
      have s3 := keepc7 k3 ⟨u0, u1, u2, u3, u4, u5, u6⟩
      have kr3 := kr2.trans k3
      clear u0 u1 u2 u3 u4 u5 u6 k3 kr2
      go_wp2_with fail
      go_roundw
      case rel => exact ⟨q + 1, _, by omega, by go_num, rfl, HN2, s3, kr3⟩
      case measure => simp [intOf]; omega
    · have HQ5 := Lib.hid (show q = 5 by omega)
      have hge : ¬ (q : Int) < 5 := by omega
      obtain ⟨t0, t1, t2, t3, t4, t5, t6⟩ := s1
      have K2 := K1.trans kr
      have Z0 : Hid (z = txt (limsT vs 5 ++ kndsT (m.take 0))) := Lib.hid (by rw [HZ.out, HQ5.out]; simp [kndsT])
      have HL5 : Hid ((limsT vs 5).length ≤ 50) := Lib.hid (HVL.out 5 (by omega))
      obtain ⟨H1, hH1⟩ : ∃ y, y = limsT vs 5 := ⟨_, rfl⟩
      rw [← hH1] at Z0 HL5 HR
      clear hH1 HZ hz K1 kr
      go_wp2_with fail
      go_loopw [3, 7, 33] (fun s _ i wr => ∃ (q : Nat) (z : ByteArray), q ≤ nk ∧ i = .int .i64 q ∧ s = .string z ∧ Hid (z = txt (H1 ++ kndsT (m.take q))) ∧ wr.cell? ⟨w.heap.size, 0, none⟩ = some (.slice At nt ct) ∧ Kp w wr) (fun _ _ i _ => nk - (intOf i).toNat)
      case atStart => exact ⟨0, _, by omega, rfl, rfl, Z0, t0, K2⟩
      case round =>
        clear Z0 t0 t1 t2 t3 t4 t5 t6 K2
        obtain ⟨q, z, hq, rfl, rfl, HZ, t0, kr⟩ := hrel
        have hz : z.size ≤ 310 := by
          have h1 := congrArg ByteArray.size HZ.out
          have h2 := HKL.out q
          have h3 := HL5.out
          rw [txt_size, List.length_append] at h1
          rw [List.length_take] at h2
          omega
        by_cases hlt : q < nk
        · have hlt' : (q : Int) < nk := by omega
          obtain ⟨x, hx⟩ : ∃ x, m[q]? = some x := ⟨m[q]'(by have := HLK.out; omega), List.getElem?_eq_getElem _⟩
          obtain ⟨g, off, rfl, hc⟩ := HKK.out (by omega)
          have hX := (hc q x hx).keep kr
          have hsm := HKS.out x (List.mem_of_getElem? hx)
          have hkl := kndSm_len hsm
          have HM := Lib.hid (kndsT_more hx)
          obtain ⟨nm, ka, kb, kc, kz, kv'⟩ := x
          obtain ⟨m1, m2, m3, m4, m5⟩ := hsm
          simp only at m1 m2 m3 m4 m5 hX
          obtain ⟨na, rfl⟩ : ∃ k : Nat, ka = k := ⟨ka.toNat, by omega⟩
          obtain ⟨nb, rfl⟩ : ∃ k : Nat, kb = k := ⟨kb.toNat, by omega⟩
          obtain ⟨nc, rfl⟩ : ∃ k : Nat, kc = k := ⟨kc.toNat, by omega⟩
          obtain ⟨nv, rfl⟩ : ∃ k : Nat, kv' = k := ⟨kv'.toNat, by omega⟩
          have CX := Lib.hid (fun w => bfKind_any nm na nb nc nv kz w m1 (by omega) (by omega) (by omega) (by omega))
          obtain ⟨sx, hsx⟩ : ∃ y, txt (kindTx ⟨nm, na, nb, nc, kz, nv⟩) = y := ⟨_, rfl⟩
          have zsx : sx.size ≤ 64 := by rw [← hsx, txt_size]; exact hkl
          rw [hsx] at CX
          obtain ⟨p1, hp1⟩ : ∃ y, sx ++ ByteArray.mk #[10] = y := ⟨_, rfl⟩
          have zp1 : p1.size ≤ 65 := by rw [← hp1, ByteArray.size_append]; have : (ByteArray.mk #[10]).size = 1 := rfl; omega
          have y1 : ¬ 9223372036854775807 < sx.size + 1 := by omega
          have y2 : ¬ 9223372036854775807 < z.size + p1.size := by omega
          have HN2 : Hid (z ++ p1 = txt (H1 ++ kndsT (m.take (q + 1)))) := Lib.hid (by
            rw [HM.out, HZ.out, ← hp1, ← hsx, show ByteArray.mk #[10] = txt [10] from rfl, txt_app, txt_app]
            simp)
          obtain ⟨a0, a1, a2, a3, a4, a5⟩ := hX
          clear hc hx hsx HZ hkl m1 m2 m3 m4 m5
          have kb1 : Kp wr (wr.alloc (.cells #[.string nm, .int .i64 (na : Int), .int .i64 (nb : Int), .int .i64 (nc : Int), .bool kz, .int .i64 (nv : Int)] 82)) := (Kp.refl wr).alloc _
          have t0b := kb1.cell t0
          have krb := kr.trans kb1
          go_wp2_with fail
          refine (CX.out _).mono ?_
          rintro e3 w3 ⟨rfl, k3⟩
          have t02 := k3.cell t0b
          have kr3 := krb.trans k3
          clear k3 kr t0 t0b krb kb1
          go_wp2_with fail
          go_roundw
          case rel => exact ⟨q + 1, _, by omega, by go_num, rfl, HN2, t02, kr3⟩
          case measure => simp [intOf]; omega
        · obtain rfl : q = nk := by omega
          have Z1 : Hid (z = txt ((H1 ++ kndsT m) ++ tersT (l.take 0))) := Lib.hid (by
            have h1 := HZ.out
            rw [List.take_of_length_le (by rw [HLK.out]; omega)] at h1
            rw [h1]
            simp [tersT])
          have HL6 : Hid ((H1 ++ kndsT m).length ≤ 310) := Lib.hid (by
            have h1 := congrArg ByteArray.size Z1.out
            rw [txt_size] at h1
            simp only [List.take_zero, tersT, List.flatMap_nil, List.append_nil] at h1
            omega)
          obtain ⟨H2, hH2⟩ : ∃ y, y = H1 ++ kndsT m := ⟨_, rfl⟩
          rw [← hH2] at Z1 HL6 HR
          clear hH2 HZ hz
          go_wp2_with fail
          go_loopw [3, 9, 46] (fun s _ i wr => ∃ (p : Nat) (z : ByteArray), p ≤ nt ∧ i = .int .i64 p ∧ s = .string z ∧ Hid (z = txt (H2 ++ tersT (l.take p))) ∧ Kp w wr) (fun _ _ i _ => nt - (intOf i).toNat)
          case atStart => exact ⟨0, _, by omega, rfl, rfl, Z1, kr⟩
          case round =>
            clear Z1 t0 kr
            obtain ⟨p, z, hp, rfl, rfl, HZ, kr⟩ := hrel
            have hz : z.size ≤ 780 := by
              have h1 := congrArg ByteArray.size HZ.out
              have h2 := HTL.out p
              have h3 := HL6.out
              rw [txt_size, List.length_append] at h1
              rw [List.length_take] at h2
              omega
            by_cases hlt : p < nt
            · have hlt' : (p : Int) < nt := by omega
              obtain ⟨x, hx⟩ : ∃ x, l[p]? = some x := ⟨l[p]'(by have := HLT.out; omega), List.getElem?_eq_getElem _⟩
              obtain ⟨g, off, rfl, hc⟩ := HT.out (by omega)
              have hX := (hc p x hx).keep kr
              have hsm := HTS.out x (List.mem_of_getElem? hx)
              rw [HLK.out] at hsm
              have hkl := terSm_len hsm
              have HM := Lib.hid (tersT_more hx)
              obtain ⟨nm, cs, sh, hg, bl⟩ := x
              have hln := hsm.len
              have hh := hsm.height
              simp only at hh hln hX
              obtain ⟨nh, rfl⟩ : ∃ k : Nat, hg = k := ⟨hg.toNat, by omega⟩
              obtain ⟨Ac, cc, ⟨a0, a1, a2, a3, a4⟩, hrd⟩ := hX
              simp only at a0 a1 a2 a3 a4 hrd
              rw [hln] at a1 hrd
              have CX := Lib.hid (fun w hr => bfTerrain_any nm Ac q cc cs sh nh bl w hr hsm (by omega))
              obtain ⟨sx, hsx⟩ : ∃ y, txt (terTx ⟨nm, cs, sh, nh, bl⟩) = y := ⟨_, rfl⟩
              have zsx : sx.size ≤ 76 := by rw [← hsx, txt_size]; omega
              rw [hsx] at CX
              obtain ⟨p1, hp1⟩ : ∃ y, sx ++ ByteArray.mk #[10] = y := ⟨_, rfl⟩
              have zp1 : p1.size ≤ 77 := by rw [← hp1, ByteArray.size_append]; have : (ByteArray.mk #[10]).size = 1 := rfl; omega
              have y1 : ¬ 9223372036854775807 < sx.size + 1 := by omega
              have y2 : ¬ 9223372036854775807 < z.size + p1.size := by omega
              have HN2 : Hid (z ++ p1 = txt (H2 ++ tersT (l.take (p + 1)))) := Lib.hid (by
                rw [HM.out, HZ.out, ← hp1, ← hsx, show ByteArray.mk #[10] = txt [10] from rfl, txt_app, txt_app]
                simp)
              have kb1 : Kp wr (wr.alloc (.cells #[.string nm, .slice Ac q cc, .int .i64 sh, .int .i64 (nh : Int), .bool bl] 85)) := (Kp.refl wr).alloc _
              have HRD := Lib.hid (hrd.keep kb1)
              have krb := kr.trans kb1
              clear hc hx hsx HZ hkl hsm hln hh hrd
              go_wp2_with fail
              refine (CX.out _ HRD.out).mono ?_
              rintro e3 w3 ⟨rfl, k3⟩
              have kr3 := krb.trans k3
              clear k3 kr krb kb1
              go_wp2_with fail
              go_roundw
              case rel => exact ⟨p + 1, _, by omega, by go_num, rfl, HN2, kr3⟩
              case measure => simp [intOf]; omega
            · obtain rfl : p = nt := by omega
              have HE : Hid (z = txt (rulTx ⟨l, m, a, b, c, d, e⟩)) := Lib.hid (by
                have h1 := HZ.out
                rw [List.take_of_length_le (by rw [HLT.out]; omega)] at h1
                rw [HR.out, h1])
              clear HZ
              go_wp2_with fail
              go_ret
              exact ⟨ret_str HE.out, kr⟩

end Go.Proofs.YtmolpkjdjkhnpabGreatDoor

/-
  RulesText of both sides; what a row's list says of the names of the limits.
-/
namespace Go.Proofs.YtmolpkjdjkhnpabGreatDoor
open Go.ChangeShapes Go.WideShapes Go.ChangeAt Go.RowKit Go.Joins

def rtT (ok : Bool) (r : Rul) : ByteArray := if ok = true then txt (rulTx r) else ⟨#[]⟩
theorem implRulesText_any (At Ak : Option Addr) (nt nk ct ck : Nat) (l : List Ter) (m : List Knd) (a b c d e : Int) (w : World) (hs : SpL w) (h : RulAt w At Ak nt nk l m) :
    Calls Tryz.prog 16 #[rv (.slice At nt ct) (.slice Ak nk ck) a b c d e] w fun e' w' => e' = .returned (.tuple #[.string (rtT (rulOk ⟨l, m, a, b, c, d, e⟩) ⟨l, m, a, b, c, d, e⟩), .bool (rulOk ⟨l, m, a, b, c, d, e⟩)]) ∧ Kp w w' := by
  cases hok : rulOk ⟨l, m, a, b, c, d, e⟩
  · exact implRulesText_no At Ak nt nk ct ck l m a b c d e w hs h hok
  · exact implRulesText_yes At Ak nt nk ct ck l m a b c d e w hs h hok

theorem cellsString : Tryz.prog.cellsOf 9 = 1 := by kernel_rfl
theorem limG : Tryz.prog.globalNamed "loop.example/g00886/impl.limitNames" = some 0 := by kernel_rfl
theorem limTy : (Tryz.prog.globals[0]?).map (·.type) = some 80 := by kernel_rfl
theorem strs_of {W : World} {n : Nat} {t : TypeId} {g : Nat} {nm : String} {l : List (List UInt8)} (hG : Tryz.prog.globalNamed nm = some g) (hT : (Tryz.prog.globals[g]?).map (·.type) = some t) (hU : Tryz.prog.underlying t = some (.array n 9)) (hn : l.length = n)
    (h : ∃ g t cs fuel p, Tryz.prog.globalNamed nm = some g ∧ (Tryz.prog.globals[g]?).map (·.type) = some t ∧ W.var? Tryz.prog nm = some cs ∧ DataW.trod (fun _ => ()) Tryz.prog W 0 (fun _ => true) false fuel t cs.toList = some (.agg (l.map fun b => .lit (.string b)), p)) :
    ∀ (j : Nat) x, l[j]? = some x → W.cell? ⟨g, j, none⟩ = some (.string (txt x)) := by
  obtain ⟨g', t', cs, fuel, p, hg', ht', hvar, hd⟩ := h
  obtain rfl := Option.some.inj (hG.symm.trans hg')
  obtain rfl := Option.some.inj (hT.symm.trans ht')
  obtain ⟨xs, m, _, hx, hl, hnn, hi⟩ := DataW.trod_array hU hd
  have hxs : xs.map (·.1) = l.map fun b => .lit (.string b) := by
    have := congrArg Prod.fst hx
    simp only [DataW.agg.injEq] at this
    exact this.symm
  intro j x hj
  have hj5 : j < n := by rw [← hn]; exact (List.getElem?_eq_some_iff.1 hj).1
  have h1 := hi j hj5
  rw [cellsString] at h1
  have h2 : (xs.map (·.1))[j]? = some (.lit (.string x)) := by rw [hxs, List.getElem?_map, hj]; rfl
  rw [List.getElem?_map, Option.map_eq_some_iff] at h2
  obtain ⟨y, hy, hy1⟩ := h2
  obtain ⟨s, c0, rfl, _⟩ := DataW.trod_string Tryz.underlying9 (h1.trans hy)
  simp only [DataW.lit.injEq, Lit.string.injEq] at hy1
  subst hy1
  have g0 : cs[j]? = some (.string s) := by
    have := congrArg (·[0]?) c0
    simpa [List.getElem?_take, List.getElem?_drop] using this
  rw [txt_of]
  exact (World.var?_cell hG hvar _).trans g0

end Go.Proofs.YtmolpkjdjkhnpabGreatDoor

/-
  MapText of both sides, whatever the map; what a row's list says of the named variables.
-/
namespace Go.Proofs.YtmolpkjdjkhnpabGreatDoor
open Go.ChangeShapes Go.WideShapes Go.ChangeAt Go.RowKit Go.Joins

def mtT (ok : Bool) (W H : Int) (lt lr ld : List Int) : ByteArray := if ok = true then txt (mapTx W H lt lr ld) else ⟨#[]⟩
structure MapSm (W H : Int) (lt lr ld : List Int) (n h : Nat) : Prop where
  ew : W = (n : Int)
  eh : H = (h : Int)
  n1 : 1 ≤ n ∧ n ≤ 10
  h1 : 1 ≤ h ∧ h ≤ 10
  len : lt.length = h * n
  tb : ∀ x ∈ lt, 0 ≤ x ∧ x < 100
  rb : ∀ x ∈ lr, 0 ≤ x ∧ x < 1000
  db : ∀ x ∈ ld, 0 ≤ x ∧ x < 1000
theorem mapOk_sm {W H : Int} {lt lr ld : List Int} (hok : mapOk W H lt lr ld = true) : ∃ n h, MapSm W H lt lr ld n h := by
  have h0 := hok
  simp only [mapOk, Bool.and_eq_true, decide_eq_true_iff] at h0
  obtain ⟨a1, a2, a3, a4, a5, a6⟩ := h0
  have b1 := sideB_true a1
  have b2 := sideB_true a2
  obtain ⟨n, rfl⟩ : ∃ n : Nat, W = n := ⟨W.toNat, by omega⟩
  obtain ⟨h, rfl⟩ : ∃ h : Nat, H = h := ⟨H.toNat, by omega⟩
  have hA : (n : Int) * h ≤ 100 := by
    have : n * h ≤ 10 * 10 := Nat.mul_le_mul (by omega) (by omega)
    omega
  refine ⟨n, h, rfl, rfl, by omega, by omega, ?_, fun x hx => ?_, edges_bd a5 hA, edges_bd a6 hA⟩
  · have : (lt.length : Int) = ((h * n : Nat) : Int) := by rw [a3, Int.natCast_mul, Int.mul_comm]
    omega
  · have := List.all_eq_true.1 a4 x hx
    simp only [terrB, Bool.and_eq_true, decide_eq_true_iff] at this
    omega

set_option maxRecDepth 100000 in
theorem implMapText_no (W H : Int) (At Ar Ad : Option Addr) (nt ct nr cr nd cd : Nat) (lt lr ld : List Int) (w : World) (hs : SpM w) (hL : Lists w (.slice At nt ct) (.slice Ar nr cr) (.slice Ad nd cd) lt lr ld) (hok : mapOk W H lt lr ld = false) :
    Calls Tryz.prog 17 #[mp W H (.slice At nt ct) (.slice Ar nr cr) (.slice Ad nd cd)] w fun e w' => e = .returned (.tuple #[.string ⟨#[]⟩, .bool false]) ∧ Kp w w' := by
  have KA : Kp w (w.alloc (.cells #[.int .i64 W, .int .i64 H, .slice At nt ct, .slice Ar nr cr, .slice Ad nd cd] 38)) := (Kp.refl w).alloc _
  have CG := isMap_any W H _ _ _ lt lr ld _ (hs.tab.keep KA) (hL.keep KA)
  rw [hok] at CG
  have HCG := Lib.hid CG
  clear hs hL hok CG
  go_enter Tryz.func17, Tryz.ntmps17
  go_wp2_with fail
  refine HCG.out.mono ?_
  rintro e1 w1 ⟨rfl, k1⟩
  go_wp2_with fail
  go_ret2
  exact ⟨rfl, KA.trans k1⟩
theorem implMapText_any (W H : Int) (At Ar Ad : Option Addr) (nt ct nr cr nd cd : Nat) (lt lr ld : List Int) (w : World) (hs : SpM w) (hL : Lists w (.slice At nt ct) (.slice Ar nr cr) (.slice Ad nd cd) lt lr ld) (hc1 : nt ≤ ct) (hc2 : ct ≤ 9223372036854775807) :
    Calls Tryz.prog 17 #[mp W H (.slice At nt ct) (.slice Ar nr cr) (.slice Ad nd cd)] w fun e w' => e = .returned (.tuple #[.string (mtT (mapOk W H lt lr ld) W H lt lr ld), .bool (mapOk W H lt lr ld)]) ∧ Kp w w' := by
  cases hok : mapOk W H lt lr ld
  · exact implMapText_no W H At Ar Ad nt ct nr cr nd cd lt lr ld w hs hL hok
  · obtain ⟨n, h, hsm⟩ := mapOk_sm hok
    obtain ⟨rfl, rfl, m1, m2, m3, m4, m5, m6⟩ := hsm
    exact implMapText_yes n h At Ar Ad nt ct nr cr nd cd lt lr ld w hs hL hc1 hc2 hok m1 m2 m3 m4 m5 m6
theorem own_cap {w : World} {base n c : Nat} {A : Option Addr} {l : List Int} (h : OwnI w base (.slice A n c) l) (hn : l.length = n) : n ≤ c ∧ c ≤ 9223372036854775807 := by
  have h2 := h.2
  rw [hn] at h2
  rcases h2 with ⟨e, h1⟩ | ⟨g, cap, cur, e1, _, _, h3, h4, _⟩
  · injection e with _ _ e3
    omega
  · injection e1 with _ _ e3
    unfold maxLen at h4
    omega

theorem edgG : Tryz.prog.globalNamed "loop.example/g00886/impl.edgeListNames" = some 1 := by kernel_rfl
theorem edgTy : (Tryz.prog.globals[1]?).map (·.type) = some 91 := by kernel_rfl
end Go.Proofs.YtmolpkjdjkhnpabGreatDoor
