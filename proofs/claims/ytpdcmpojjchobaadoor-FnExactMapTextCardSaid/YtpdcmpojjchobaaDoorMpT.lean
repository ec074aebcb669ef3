/-
  MapText of the program. The named variables hold what the program's text lays.
-/
import Derived.Test.YtpdcmpojjchobaaDoorMpS
import Derived.Test.YtpdcmpojjchobaaDoorBue
namespace Go.Proofs.YtpdcmpojjchobaaDoor
open Go.RowKit

theorem gT_row (n : Nat) (hn : 1 ≤ n) (l : List Int) (q : Nat) (hl : q * n + n ≤ l.length) : ∀ k, k ≤ n → gT n l (q * n + k) = gT n l (q * n) ++ digs ((l.drop (q * n)).take k) ++ (if k = n then [10] else [])
  | 0, _ => by rw [if_neg (by omega)]; simp [digs]
  | k + 1, hk => by
    obtain ⟨x, hx⟩ : ∃ x, l[q * n + k]? = some x := ⟨l[q * n + k]'(by omega), List.getElem?_eq_getElem _⟩
    have ih := gT_row n hn l q hl k (by omega)
    have hd : (l.drop (q * n))[k]? = some x := by rw [List.getElem?_drop]; exact hx
    have hm : (q * n + k) % n = k := by rw [Nat.mul_comm, Nat.mul_add_mod]; exact Nat.mod_eq_of_lt (by omega)
    rw [← Nat.add_assoc, gT_more hx, ih, if_neg (by omega), digs_more hd, hm, List.append_nil, List.append_assoc (gT n l (q * n))]
    by_cases e : k = n - 1
    · rw [if_pos e, if_pos (by omega)]
    · rw [if_neg e, if_neg (by omega)]

/-- The lines of edges, as far as the p-th list. -/
def eT (lr ld : List Int) : Nat → List UInt8
  | 0 => []
  | 1 => [114, 105, 118, 101, 114, 115] ++ numsT lr ++ [10]
  | _ => [114, 105, 118, 101, 114, 115] ++ numsT lr ++ [10] ++ ([114, 111, 97, 100, 115] ++ numsT ld ++ [10])
/-- The names of the lists of edges, as the program's text lays them. -/
def edgW : List (List UInt8) := [[114, 105, 118, 101, 114, 115], [114, 111, 97, 100, 115]]
def EdgAt (w : World) : Prop := ∀ (j : Nat) nm, edgW[j]? = some nm → w.cell? ⟨1, j, none⟩ = some (.string (txt nm))
theorem EdgAt.keep {w w' : World} (h : EdgAt w) (k : Kp w w') : EdgAt w' := fun j nm hj => k.cell (h j nm hj)
structure SpM (w : World) : Prop where
  tab : Tab w
  pow : PowAt w
  edg : EdgAt w
theorem SpM.keep {w w' : World} (h : SpM w) (k : Kp w w') : SpM w' := ⟨h.tab.keep k, h.pow.keep k, h.edg.keep k⟩
set_option maxRecDepth 100000 in
theorem idx2 (x y : Value) (q : Nat) (w : World) (h : q < 2) : Sem.run Tryd.prog (Instr.index 92 (.agg #[x, y]) (.int .i64 (q : Int))) w = .ok (if q = 0 then x else y) w := by
  have hq : q = 0 ∨ q = 1 := by omega
  rcases hq with rfl | rfl <;> rfl
theorem numbersLine_nm (nm : List UInt8) (v : Value) (ns : List Int) (w : World) (hr : RdI w v ns) (hn : ns.length ≤ 1048576) (hb : ∀ x ∈ ns, 0 ≤ x ∧ x < 1000) (hp : PowAt w) (hl : nm.length ≤ 100) :
    Calls Tryd.prog 44 #[.string (txt nm), v] w fun e w' => e = .returned (.string (txt (nm ++ numsT ns ++ [10]))) ∧ Kp w w' := by
  have hd : (txt nm).data.toList = nm := by simp [txt]
  have := numbersLine_any (txt nm) v ns w hr hn (fun x hx w' k => itoa_any x w' (by have := hb x hx; omega) (by have := hb x hx; omega) (hp.keep k)) (by
    rw [hd, List.length_append]
    have := numsT_len ns hb
    omega)
  rw [hd] at this
  exact this

set_option maxRecDepth 100000 in
set_option maxHeartbeats 16000000 in
theorem implMapText_yes (n h : Nat) (At Ar Ad : Option Addr) (nt ct nr cr nd cd : Nat) (lt lr ld : List Int) (w : World) (hs : SpM w) (hL : Lists w (.slice At nt ct) (.slice Ar nr cr) (.slice Ad nd cd) lt lr ld) (hc1 : nt ≤ ct) (hc2 : ct ≤ 9223372036854775807) (hok : mapOk n h lt lr ld = true)
    (h1 : 1 ≤ n ∧ n ≤ 10) (h2 : 1 ≤ h ∧ h ≤ 10) (hA : lt.length = h * n) (htb : ∀ x ∈ lt, 0 ≤ x ∧ x < 100) (hrb : ∀ x ∈ lr, 0 ≤ x ∧ x < 1000) (hdb : ∀ x ∈ ld, 0 ≤ x ∧ x < 1000) :
    Calls Tryd.prog 20 #[mp n h (.slice At nt ct) (.slice Ar nr cr) (.slice Ad nd cd)] w fun e w' => e = .returned (.tuple #[.string (txt (mapTx n h lt lr ld)), .bool true]) ∧ Kp w w' := by
  have KA : Kp w (w.alloc (.cells #[.int .i64 (n : Int), .int .i64 (h : Int), .slice At nt ct, .slice Ar nr cr, .slice Ad nd cd] 43)) := (Kp.refl w).alloc _
  have s0 : (w.alloc (.cells #[.int .i64 (n : Int), .int .i64 (h : Int), .slice At nt ct, .slice Ar nr cr, .slice Ad nd cd] 43)).cell? ⟨w.heap.size, 0, none⟩ = some (.int .i64 (n : Int)) ∧ (w.alloc (.cells #[.int .i64 (n : Int), .int .i64 (h : Int), .slice At nt ct, .slice Ar nr cr, .slice Ad nd cd] 43)).cell? ⟨w.heap.size, 1, none⟩ = some (.int .i64 (h : Int)) ∧ (w.alloc (.cells #[.int .i64 (n : Int), .int .i64 (h : Int), .slice At nt ct, .slice Ar nr cr, .slice Ad nd cd] 43)).cell? ⟨w.heap.size, 2, none⟩ = some (.slice At nt ct) ∧ (w.alloc (.cells #[.int .i64 (n : Int), .int .i64 (h : Int), .slice At nt ct, .slice Ar nr cr, .slice Ad nd cd] 43)).cell? ⟨w.heap.size, 3, none⟩ = some (.slice Ar nr cr) ∧ (w.alloc (.cells #[.int .i64 (n : Int), .int .i64 (h : Int), .slice At nt ct, .slice Ar nr cr, .slice Ad nd cd] 43)).cell? ⟨w.heap.size, 4, none⟩ = some (.slice Ad nd cd) := ⟨by simp [go_sem], by simp [go_sem], by simp [go_sem], by simp [go_sem], by simp [go_sem]⟩
  have CG := isMap_any n h (.slice At nt ct) (.slice Ar nr cr) (.slice Ad nd cd) lt lr ld _ (hs.tab.keep KA) (hL.keep KA)
  rw [hok] at CG
  have HCG := Lib.hid CG
  have HS := Lib.hid hs
  have e1 : lt.length = nt := by obtain ⟨A, c, e, _⟩ := hL.rt; injection e with _ e2 _; exact e2.symm
  obtain ⟨A', c', e', hAt⟩ := hL.rt
  injection e' with e3 e4 e5
  subst e3
  obtain ⟨g, off, rfl, hc⟩ := hAt (by rw [hA]; exact Nat.mul_pos (by omega) (by omega))
  have HC := Lib.hid hc
  have HRR := Lib.hid hL.rr
  have HRD := Lib.hid hL.rd
  have l2 := hL.br
  have l3 := hL.bd
  have HTB := Lib.hid htb
  have HRB := Lib.hid hrb
  have HDB := Lib.hid hdb
  have hnt : nt = h * n := by omega
  have hnt2 : nt ≤ 100 := by rw [hnt]; exact Nat.le_trans (Nat.mul_le_mul h2.2 h1.2) (by decide)
  have HNT := Lib.hid hnt
  have HE1 := Lib.hid e1
  have HGL := Lib.hid (gT_len n lt htb)
  obtain ⟨HD, hHD⟩ : ∃ y, y = [109, 97, 112] ++ numsT [(n : Int), h] ++ [10] := ⟨_, rfl⟩
  have HDL : Hid (HD.length ≤ 20) := Lib.hid (by
    have := numsT_len [(n : Int), h] (fun x hx => by simp only [List.mem_cons, List.not_mem_nil, or_false] at hx; omega)
    rw [hHD, List.length_append, List.length_append]
    simp only [List.length_cons, List.length_nil] at this ⊢
    omega)
  have HR : Hid (mapTx n h lt lr ld = HD ++ gT n lt nt ++ ([114, 105, 118, 101, 114, 115] ++ numsT lr ++ [10]) ++ ([114, 111, 97, 100, 115] ++ numsT ld ++ [10])) := Lib.hid (by
    rw [hHD, ← e1]
    unfold mapTx
    rw [show numsT [(n : Int), h] = 32 :: Lib.itoa n ++ (32 :: Lib.itoa h) by simp [numsT], itoa_pos (by omega), itoa_pos (by omega)]
    simp)
  have hn1 := h1.1
  have hn2 := h1.2
  have hh1 := h2.1
  have hh2 := h2.2
  have CM : Hid (∀ W g, PowAt W → W.cell? ⟨g, 0, none⟩ = some (.int .i64 (n : Int)) → W.cell? ⟨g, 1, none⟩ = some (.int .i64 (h : Int)) → Calls Tryd.prog 44 #[.string (ByteArray.mk #[109, 97, 112]), .slice (some ⟨g, 0, none⟩) 2 2] W fun e w' => e = .returned (.string (txt HD)) ∧ Kp W w') := Lib.hid (fun W g hp c0 c1 => by
    rw [hHD]
    refine numbersLine_nm [109, 97, 112] (.slice (some ⟨g, 0, none⟩) 2 2) [(n : Int), h] W ⟨_, _, rfl, fun _ => ⟨_, _, rfl, fun i y hy => ?_⟩⟩ (by simp) (fun x hx => by simp only [List.mem_cons, List.not_mem_nil, or_false] at hx; omega) hp (by decide)
    match i, hy with
    | 0, hy => simp only [List.getElem?_cons_zero, Option.some.injEq] at hy; subst hy; exact c0
    | 1, hy => simp only [List.getElem?_cons_zero, List.getElem?_cons_succ, Option.some.injEq] at hy; subst hy; exact c1
    | i + 2, hy => simp at hy)
  clear hs hL hok h1 h2 hA htb hrb hdb CG e1 hAt hc e4 e5 hHD hnt
  go_enter Tryd.func20, Tryd.ntmps20
  go_wp2_with fail
  refine HCG.out.mono ?_
  rintro e1 w1 ⟨rfl, k1⟩
  have K1 := KA.trans k1
  have hz1 : w.heap.size < w1.heap.size := by have := k1.size; simp at this; omega
  have kb1 : Kp w1 (w1.alloc (.cells #[.pointer none, .slice none 0 0] 75)) := (Kp.refl w1).alloc _
  have s2 : (w1.alloc (.cells #[.pointer none, .slice none 0 0] 75)).cell? ⟨w.heap.size, 0, none⟩ = some (.int .i64 (n : Int)) ∧ (w1.alloc (.cells #[.pointer none, .slice none 0 0] 75)).cell? ⟨w.heap.size, 1, none⟩ = some (.int .i64 (h : Int)) ∧ (w1.alloc (.cells #[.pointer none, .slice none 0 0] 75)).cell? ⟨w.heap.size, 2, none⟩ = some (.slice (some ⟨g, off, none⟩) nt ct) ∧ (w1.alloc (.cells #[.pointer none, .slice none 0 0] 75)).cell? ⟨w.heap.size, 3, none⟩ = some (.slice Ar nr cr) ∧ (w1.alloc (.cells #[.pointer none, .slice none 0 0] 75)).cell? ⟨w.heap.size, 4, none⟩ = some (.slice Ad nd cd) := ⟨kb1.cell (k1.cell s0.1), kb1.cell (k1.cell s0.2.1), kb1.cell (k1.cell s0.2.2.1), kb1.cell (k1.cell s0.2.2.2.1), kb1.cell (k1.cell s0.2.2.2.2)⟩
  have F0 := Lib.hid (Lib.fresh_isBuilder 75 5 w1)
  have KB := K1.trans kb1
  clear s0 k1 KA HCG
  obtain ⟨t0, t1, t2, t3, t4⟩ := s2
  go_wp2_with fail
  generalize hWB : w1.alloc (.cells #[.pointer none, .slice none 0 0] 75) = WB at *
  have hzB : WB.heap.size = w1.heap.size + 1 := by rw [← hWB]; simp
  clear hWB
  have kx : Kp WB (WB.alloc (.cells #[.int .i64 (n : Int), .int .i64 (h : Int)] 3)) := (Kp.refl WB).alloc _
  have hcm0 : (WB.alloc (.cells #[.int .i64 (n : Int), .int .i64 (h : Int)] 3)).cell? ⟨w1.heap.size + 1, 0, none⟩ = some (.int .i64 (n : Int)) := by rw [← hzB]; simp [go_sem]
  have hcm1 : (WB.alloc (.cells #[.int .i64 (n : Int), .int .i64 (h : Int)] 3)).cell? ⟨w1.heap.size + 1, 1, none⟩ = some (.int .i64 (h : Int)) := by rw [← hzB]; simp [go_sem]
  refine (CM.out (WB.alloc (.cells #[.int .i64 (n : Int), .int .i64 (h : Int)] 3)) (w1.heap.size + 1) ((HS.out.pow.keep KB).keep kx) hcm0 hcm1).mono ?_
  rintro e2 w2 ⟨rfl, k2⟩
  have k02 := kx.trans k2
  have F2 := Lib.hid (isBuilder_keep F0.out k02)
  have hz2 : w1.heap.size < w2.heap.size := by have := k02.size; omega
  have HSTR : Hid (Lib.strCells (txt HD) = Lib.byteCells HD ∧ (txt HD).size ≤ 20) := Lib.hid ⟨strCells_txt _, by rw [txt_size]; exact HDL.out⟩
  clear k2 kx F0
  go_wp2_with fail
  refine (writeString_any w1.heap.size w1.heap.size _ _ _ F2.out (by have := HSTR.out.2; simp only [List.length_nil]; omega) (by omega)).mono ?_
  rintro e3 w3 ⟨⟨r3, rfl⟩, hb3, kb3⟩
  have F3 : Hid (Lib.IsBuilder 75 5 w1.heap.size w1.heap.size (Lib.byteCells (HD ++ gT n lt (0 * n))) w3) := Lib.hid (by
    rw [Nat.zero_mul]
    simp only [gT, List.append_nil]
    rw [← HSTR.out.1]
    exact .inr (by simpa using hb3))
  have KBL : Below w1.heap.size WB w3 := Below.trans (Below.mono k02 (by omega)) kb3
  have hz3 : w1.heap.size < w3.heap.size := by have := kb3.size; omega
  have HS2 := Lib.hid (And.intro t0 (And.intro t1 (And.intro t2 (And.intro t3 t4))))
  have u0 : w3.cell? ⟨w.heap.size, 0, none⟩ = some (.int .i64 (n : Int)) := (KBL.cell (show w.heap.size < w1.heap.size from hz1)).trans t0
  have u1 : w3.cell? ⟨w.heap.size, 1, none⟩ = some (.int .i64 (h : Int)) := (KBL.cell (show w.heap.size < w1.heap.size from hz1)).trans t1
  clear hb3 kb3 k02 F2 t0 t1 t2 t3 t4
  go_wp2_with fail
  go_loopw [5, 20] (fun _ i wr => ∃ q : Nat, q ≤ h ∧ i = .int .i64 q ∧ Hid (Lib.IsBuilder 75 5 w1.heap.size w1.heap.size (Lib.byteCells (HD ++ gT n lt (q * n))) wr) ∧ w1.heap.size < wr.heap.size ∧ Below w1.heap.size WB wr) (fun _ i _ => h - (intOf i).toNat)
  case atStart => exact ⟨0, by omega, rfl, F3, hz3, KBL⟩
  case round =>
    clear F3 KBL hz3 u0 u1
    obtain ⟨q, hq, rfl, HBu, hzr, kbl⟩ := hrel
    have kr : Kp w wr := Below.trans KB (Below.mono kbl (Nat.le_of_lt hz1))
    obtain ⟨t0, t1, t2, t3, t4⟩ : wr.cell? ⟨w.heap.size, 0, none⟩ = some (.int .i64 (n : Int)) ∧ wr.cell? ⟨w.heap.size, 1, none⟩ = some (.int .i64 (h : Int)) ∧ wr.cell? ⟨w.heap.size, 2, none⟩ = some (.slice (some ⟨g, off, none⟩) nt ct) ∧ wr.cell? ⟨w.heap.size, 3, none⟩ = some (.slice Ar nr cr) ∧ wr.cell? ⟨w.heap.size, 4, none⟩ = some (.slice Ad nd cd) := ⟨(kbl.cell (show w.heap.size < w1.heap.size from hz1)).trans HS2.out.1, (kbl.cell (show w.heap.size < w1.heap.size from hz1)).trans HS2.out.2.1, (kbl.cell (show w.heap.size < w1.heap.size from hz1)).trans HS2.out.2.2.1, (kbl.cell (show w.heap.size < w1.heap.size from hz1)).trans HS2.out.2.2.2.1, (kbl.cell (show w.heap.size < w1.heap.size from hz1)).trans HS2.out.2.2.2.2⟩
    by_cases hlt : q < h
    · have hlt' : (q : Int) < h := by omega
      have hrow : q * n + n ≤ nt := by
        have h3 : (q + 1) * n ≤ h * n := Nat.mul_le_mul_right _ (by omega)
        rw [Nat.add_mul, Nat.one_mul] at h3
        rw [HNT.out]
        exact h3
      have HROW := Lib.hid (gT_row n hn1 lt q (by rw [HE1.out]; exact hrow) n (Nat.le_refl _))
      have HNX : Hid ((q + 1) * n = q * n + n) := Lib.hid (by rw [Nat.add_mul, Nat.one_mul])
      obtain ⟨lo, hlo⟩ : ∃ lo, q * n = lo := ⟨_, rfl⟩
      have m1 : (q : Int) * (n : Int) = (lo : Int) := by rw [← hlo]; exact (Int.natCast_mul q n).symm
      have m2 : ((q : Int) + 1) * (n : Int) = ((lo + n : Nat) : Int) := by rw [Int.add_mul, m1, Int.one_mul]; omega
      rw [hlo] at hrow HROW HNX HBu
      obtain ⟨row, hrw⟩ : ∃ row, row = (lt.drop lo).take n := ⟨_, rfl⟩
      have hrl : row.length = n := by rw [hrw, List.length_take, List.length_drop, HE1.out]; omega
      rw [← hrw] at HROW
      have HRDW : Hid (∀ c, RdI wr (.slice (some ⟨g, off + lo, none⟩) n c) row) := Lib.hid (fun c => ⟨_, _, by rw [hrl], fun _ => ⟨_, _, rfl, fun i x hx => by
        rw [hrw, List.getElem?_take] at hx
        split at hx
        · rw [List.getElem?_drop] at hx
          have := kr.cell (HC.out _ x hx)
          rw [Nat.add_assoc]
          exact this
        · cases hx⟩⟩)
      have CD : Hid (∀ c, Calls Tryd.prog 51 #[.slice (some ⟨g, off + lo, none⟩) n c] wr fun e w' => e = .returned (.string (txt (digs row ++ [10]))) ∧ Kp wr w') := Lib.hid (fun c => digitsLine_any _ row wr (HRDW.out c) (by omega) (fun x hx => HTB.out x (by rw [hrw] at hx; exact List.mem_of_mem_drop (List.mem_of_mem_take hx))))
      have HDG : Hid ((digs row).length ≤ 2 * n) := Lib.hid (by
        have := digs_len row (fun x hx => HTB.out x (by rw [hrw] at hx; exact List.mem_of_mem_drop (List.mem_of_mem_take hx)))
        rw [hrl] at this
        exact this)
      obtain ⟨X, hX⟩ : ∃ X, digs row ++ [10] = X := ⟨_, rfl⟩
      have HX : Hid (Lib.strCells (txt X) = Lib.byteCells X ∧ (txt X).size ≤ 21) := Lib.hid ⟨strCells_txt _, by rw [txt_size, ← hX, List.length_append]; have := HDG.out; simp only [List.length_cons, List.length_nil]; omega⟩
      have HTX : Hid (HD ++ gT n lt ((q + 1) * n) = (HD ++ gT n lt lo) ++ X) := Lib.hid (by rw [HNX.out, HROW.out, if_pos rfl, ← hX]; simp)
      have HBL : Hid ((HD ++ gT n lt lo).length ≤ 320) := Lib.hid (by rw [List.length_append]; have := HDL.out; have := HGL.out lo; omega)
      rw [hX] at CD
      have n1 : ¬ ct - lo = 0 := by omega
      have n2 : ¬ ct = lo := by omega
      have n3 : lo + n ≤ ct := by omega
      have n4 : lo ≤ ct := by omega
      have n5 : lo ≤ lo + n := by omega
      have n6 : lo + n - lo = n := by omega
      clear hrw hrl hX HRDW hlo
      go_wp2_with fail
      refine (CD.out _).mono ?_
      rintro e4 w4 ⟨rfl, k4⟩
      have HB4 := Lib.hid (isBuilder_keep HBu.out k4)
      have hz4 : w1.heap.size < w4.heap.size := by have := k4.size; omega
      have kbl4 : Below w1.heap.size WB w4 := Below.trans kbl (Below.mono k4 (by omega))
      clear k4 HBu
      go_wp2_with fail
      refine (writeString_any w1.heap.size w1.heap.size _ _ _ HB4.out (by rw [Lib.byteCells_length]; have := HBL.out; have := HX.out.2; omega) (by omega)).mono ?_
      rintro e5 w5 ⟨⟨r5, rfl⟩, hb5, kb5⟩
      have HB5 : Hid (Lib.IsBuilder 75 5 w1.heap.size w1.heap.size (Lib.byteCells (HD ++ gT n lt ((q + 1) * n))) w5) := Lib.hid (by rw [HTX.out, Lib.byteCells_append, ← HX.out.1]; exact .inr hb5)
      have kbl5 : Below w1.heap.size WB w5 := Below.trans kbl4 kb5
      have hz5 : w1.heap.size < w5.heap.size := by have := kb5.size; omega
      clear hb5 kb5
      go_wp2_with fail
      go_roundw
      case rel => exact ⟨q + 1, by omega, by go_num, HB5, hz5, kbl5⟩
      case measure => simp [intOf]; omega
    · have HQH := Lib.hid (show q = h by omega)
      have hge : ¬ (q : Int) < h := by omega
      have HB0 : Hid (Lib.IsBuilder 75 5 w1.heap.size w1.heap.size (Lib.byteCells (HD ++ gT n lt nt ++ eT lr ld 0)) wr) := Lib.hid (by
        have h3 := HBu.out
        rw [HQH.out, ← HNT.out] at h3
        simpa [eT] using h3)
      have HL1 : Hid ((HD ++ gT n lt nt).length ≤ 320) := Lib.hid (by rw [List.length_append]; have := HDL.out; have := HGL.out nt; omega)
      obtain ⟨H1, hH1⟩ : ∃ y, y = HD ++ gT n lt nt := ⟨_, rfl⟩
      rw [← hH1] at HB0 HL1 HR
      have HR2 : Hid (mapTx n h lt lr ld = H1 ++ eT lr ld 2) := Lib.hid (by rw [HR.out]; simp [eT])
      clear hH1 HBu
      go_wp2_with fail
      refine (edgeListsOf_any _ _ _ _ _ _ _ _ _ _).mono ?_
      rintro e4 w4 ⟨rfl, k4⟩
      have HB4 := Lib.hid (isBuilder_keep HB0.out k4)
      have hz4 : w1.heap.size < w4.heap.size := by have := k4.size; omega
      have kbl4 : Below w1.heap.size WB w4 := Below.trans kbl (Below.mono k4 (by omega))
      clear k4 HB0 t0 t1 t2 t3 t4 kbl kr hzr
      go_wp2_with fail
      go_loopw [6, 7, 40] (fun _ _ i wr => ∃ p : Nat, p ≤ 2 ∧ i = .int .i64 p ∧ Hid (Lib.IsBuilder 75 5 w1.heap.size w1.heap.size (Lib.byteCells (H1 ++ eT lr ld p)) wr) ∧ w1.heap.size < wr.heap.size ∧ Below w1.heap.size WB wr) (fun _ _ i _ => 2 - (intOf i).toNat)
      case atStart => exact ⟨0, by omega, rfl, HB4, hz4, kbl4⟩
      case round =>
        clear HB4 hz4 kbl4 hge
        obtain ⟨p, hp, rfl, HBu, hzr, kbl⟩ := hrel
        have kr : Kp w wr := Below.trans KB (Below.mono kbl (Nat.le_of_lt hz1))
        by_cases hlt : p < 2
        · have hlt' : (p : Int) < 2 := by omega
          have hix := idx2 (.slice Ar nr cr) (.slice Ad nd cd) p wr hlt
          obtain ⟨nm, hnm, hnl⟩ : ∃ nm, edgW[p]? = some nm ∧ nm.length ≤ 6 := by
            match p, hlt with
            | 0, _ => exact ⟨_, rfl, by decide⟩
            | 1, _ => exact ⟨_, rfl, by decide⟩
          obtain ⟨ns, hns⟩ : ∃ ns, ns = if p = 0 then lr else ld := ⟨_, rfl⟩
          have HST : Hid (eT lr ld (p + 1) = eT lr ld p ++ (nm ++ numsT ns ++ [10])) := Lib.hid (by
            match p, hlt, hnm, hns with
            | 0, _, hnm, hns => simp [edgW] at hnm; subst hnm; subst hns; simp [eT]
            | 1, _, hnm, hns => simp [edgW] at hnm; subst hnm; subst hns; simp [eT])
          have hnb : (∀ x ∈ ns, 0 ≤ x ∧ x < 1000) ∧ ns.length ≤ 1048576 := by
            rw [hns]
            split
            · exact ⟨HRB.out, l2⟩
            · exact ⟨HDB.out, l3⟩
          obtain ⟨v, hv⟩ : ∃ v, (if p = 0 then Value.slice Ar nr cr else Value.slice Ad nd cd) = v := ⟨_, rfl⟩
          have hrd : RdI wr v ns := by
            rw [← hv, hns]
            split
            · exact HRR.out.keep kr
            · exact HRD.out.keep kr
          rw [hv] at hix
          have CN := Lib.hid (numbersLine_nm nm v ns wr hrd hnb.2 hnb.1 (HS.out.pow.keep kr) (by omega))
          have HNL : Hid ((numsT ns).length ≤ 4 * 1048576) := Lib.hid (by have := numsT_len ns hnb.1; have := hnb.2; omega)
          obtain ⟨X, hX⟩ : ∃ X, nm ++ numsT ns ++ [10] = X := ⟨_, rfl⟩
          have HX : Hid (Lib.strCells (txt X) = Lib.byteCells X ∧ (txt X).size ≤ 7 + 4 * 1048576) := Lib.hid ⟨strCells_txt _, by rw [txt_size, ← hX, List.length_append, List.length_append]; have := HNL.out; simp only [List.length_cons, List.length_nil]; omega⟩
          rw [hX] at HST CN
          have HBL : Hid ((H1 ++ eT lr ld p).length ≤ 320 + 7 + 4 * 1048576) := Lib.hid (by
            rw [List.length_append]
            have h3 := HL1.out
            have h4 := numsT_len lr HRB.out
            match p, hlt with
            | 0, _ => simp [eT]; omega
            | 1, _ => simp only [eT, List.length_append, List.length_cons, List.length_nil]; omega)
          have a0 := kr.cell (HS.out.edg p nm hnm)
          clear hnm hns hnb hrd hX hv
          go_wp2_with fail
          refine CN.out.mono ?_
          rintro e4 w4 ⟨rfl, k4⟩
          have HB4 := Lib.hid (isBuilder_keep HBu.out k4)
          have hz4 : w1.heap.size < w4.heap.size := by have := k4.size; omega
          have kbl4 : Below w1.heap.size WB w4 := Below.trans kbl (Below.mono k4 (by omega))
          clear k4 HBu
          go_wp2_with fail
          refine (writeString_any w1.heap.size w1.heap.size _ _ _ HB4.out (by rw [Lib.byteCells_length]; have := HBL.out; have := HX.out.2; omega) (by omega)).mono ?_
          rintro e5 w5 ⟨⟨r5, rfl⟩, hb5, kb5⟩
          have HB5 : Hid (Lib.IsBuilder 75 5 w1.heap.size w1.heap.size (Lib.byteCells (H1 ++ eT lr ld (p + 1))) w5) := Lib.hid (by rw [HST.out, ← List.append_assoc, Lib.byteCells_append, ← HX.out.1]; exact .inr hb5)
          have kbl5 : Below w1.heap.size WB w5 := Below.trans kbl4 kb5
          have hz5 : w1.heap.size < w5.heap.size := by have := kb5.size; omega
          clear hb5 kb5
          go_wp2_with fail
          go_roundw
          case rel => exact ⟨p + 1, by omega, by go_num, HB5, hz5, kbl5⟩
          case measure => simp [intOf]; omega
        · have HP2 := Lib.hid (show p = 2 by omega)
          have hge2 : ¬ (p : Int) < 2 := by omega
          have HBE : Hid (Lib.IsBuilder 75 5 w1.heap.size w1.heap.size (Lib.byteCells (mapTx n h lt lr ld)) wr) := Lib.hid (by
            have h3 := HBu.out
            rw [HP2.out] at h3
            rw [HR2.out]
            exact h3)
          clear HBu
          go_wp2_with fail
          refine (Tryd.Builder_String_any w1.heap.size w1.heap.size _ _ HBE.out (by omega)).mono ?_
          rintro e6 w6 ⟨rfl, k6⟩
          go_wp2_with fail
          go_ret2
          exact ⟨rfl, Below.trans kr (Below.mono k6 (by omega))⟩

end Go.Proofs.YtpdcmpojjchobaaDoor
