/-
  The cells of a sight: the hexes of a line without its ends, as indices of a map: both sides. In memory of its own; nothing that was there is changed.
-/
import Derived.Test.YtfohhofpfmbheaaGreatDoorSgU
import Derived.Maps.AppendAt
import Derived.Test.YtfohhofpfmbheaaGreatDoorQf
import Derived.Test.YtfohhofpfmbheaaGreatDoorQg
namespace Go.Proofs.YtfohhofpfmbheaaGreatDoor
open Go.RowKit

theorem mkIntsC (n : Nat) (hn : n ≤ 1048576) (w : World) :
    (Instr.makeSlice 26 (.int .i64 0) (.int .i64 (n : Int))).run Tryz.prog w = .ok (.slice (some ⟨w.heap.size, 0, none⟩) 0 n) (w.alloc (.cells (madeCells #[.int .i64 0] n) 3)) := by
  obtain ⟨i, hi, hz, hs, hb⟩ := info_parts infoInt
  have hr := run_make (P := Tryz.prog) w 26 3 i (.int .i64 0) Tryz.underlying26 hi hz .i64 .i64 0 (n : Int) (Int.le_refl _) (by omega) (by rw [hb]; omega) (by omega)
  rw [hs, Int.toNat_natCast, Nat.mul_one] at hr
  exact hr
theorem ownI_madeC (w : World) (base n : Nat) (hb : base ≤ w.heap.size) (hn : n ≤ 1048576) : OwnI (w.alloc (.cells (madeCells #[.int .i64 0] n) 3)) base (.slice (some ⟨w.heap.size, 0, none⟩) 0 n) [] := by
  unfold OwnI
  exact World.ownsRow_made w _ n hb (by simp only [maxLen]; omega) (by rw [size_madeCells, Nat.mul_one])
theorem idxC_take {W : Int} {L : List (Int × Int)} {q : Nat} {p : Int × Int} (h : L[q]? = some p) : idxC W (L.take (q + 1)) = idxC W (L.take q) ++ [idxM W p.1 p.2] := by
  unfold idxC
  rw [List.take_add_one, h]
  simp
theorem idxM_bd {W H q r : Int} (b : W ≤ 10) (e : H ≤ 10) (h1 : 0 ≤ q) (h2 : q < W) (h3 : 0 ≤ r) (h4 : r < H) : 0 ≤ idxM W q r ∧ idxM W q r ≤ 3000 := by
  have := mul_bd (by omega) b (r := r) (by omega) (by omega)
  unfold idxM
  have := Int.mul_nonneg h3 (show 0 ≤ W by omega)
  omega
theorem step_append_at {P : Program} {o : Oper} {a : Act} {w : World} {K : Act → World → Prop} {Q : Exit → Act → World → Prop} (s x : Operand) (t : TypeId)
    (ho : o.op = .call { callee := .builtin .append, args := #[s, x], argTypes := #[t, t] })
    (base : Nat) (e : TypeId) (i : TypeInfo) (z : Value) (size bytes : Nat) (ht : P.underlying t = some (.slice e)) (hi : P.info? e = some i) (hz : i.zero = some z)
    (hsize : i.size = size) (hby : i.bytes = bytes) (hzs : z.cells.size = size) (hsz : 0 < size)
    (v : Value) (n : Nat) (xs : List Value) (hs : a.eval s = v) (hown : w.ownsRow base e size v n xs)
    (ad : Addr) (m c : Nat) (news : List Value) (hx : a.eval x = .slice (some ad) m c) (hl : news.length = m * size) (hnews : ∀ j u, news[j]? = some u → w.cell? (ad.add j) = some u) (h1 : ∀ u ∈ news, u.oneCell' = true)
    (h63 : n + m ≤ maxLen) (hbytes : (n + m) * bytes ≤ 140737488355328) (hbase : base ≤ w.heap.size)
    (h : ∀ v' w', w'.ownsRow base e size v' (n + m) (xs ++ news) → w.grownBy w' v.ownBlock → (v'.ownBlock = v.ownBlock ∨ v'.ownBlock = some w.heap.size) → K (a.put o.dst v') w') : Oper.wp P o a w K Q := by
  obtain ⟨v', w', hr, h2, h3, _, h5⟩ := run_append_own_at (P := P) (w := w) base t o.type e i z size bytes ht hi hz hsize hby hzs hsz v n xs hown ad m c news hl hnews h1 h63 hbytes hbase
  unfold Oper.wp execOp
  simp only [ho, resolve, invoke, builtin, Sem.run_bind, Sem.run_pure, Result.andThen_ok, List.map_toArray, List.map_cons, List.map_nil, hs, hx, hr]
  exact h v' w' h2 h3 h5

set_option maxRecDepth 100000 in
set_option maxHeartbeats 4000000 in
theorem indicesOfHexes_any (W H : Int) (x r y v : Value) (L : List (Int × Int)) (w : World) (a : 1 ≤ W) (b : W ≤ 10) (c : 1 ≤ H) (e : H ≤ 10) (hv : RdH w v L) (hL : ∀ p ∈ L, 0 ≤ p.1 ∧ p.1 < W ∧ 0 ≤ p.2 ∧ p.2 < H) (hl : L.length ≤ 2) :
    Calls Tryz.prog 81 #[mp W H x r y, v] w fun e' w' => ∃ v', e' = .returned v' ∧ OwnI w' w.heap.size v' (idxC W L) ∧ Kp w w' := by
  have s0 := new5 w (.int .i64 W) (.int .i64 H) x r y 39
  obtain ⟨A, cp, rfl, hc⟩ := hv
  have HV := Lib.hid hc
  have HLL := Lib.hid hL
  obtain ⟨n, hn⟩ : ∃ n, n = L.length := ⟨_, rfl⟩
  have HN := Lib.hid hn
  rw [← hn] at hl HV ⊢
  have hmk := mkIntsC n (by omega) (w.alloc (.cells #[.int .i64 W, .int .i64 H, x, r, y] 39))
  have HM := Lib.hid (ownI_madeC (w.alloc (.cells #[.int .i64 W, .int .i64 H, x, r, y] 39)) (w.heap.size + 1) n (by simp) (by omega))
  have sM := keep5 ((Kp.refl _).alloc (.cells (madeCells #[.int .i64 0] n) 3)) s0
  obtain ⟨j0, hj0, hz0, hs0, hb0⟩ := info_parts infoInt
  have hzM : w.heap.size + 1 ≤ ((w.alloc (.cells #[.int .i64 W, .int .i64 H, x, r, y] 39)).alloc (.cells (madeCells #[.int .i64 0] n) 3)).heap.size := by simp
  have hzW : (w.alloc (.cells #[.int .i64 W, .int .i64 H, x, r, y] 39)).heap.size = w.heap.size + 1 := by simp
  rw [hzW] at hmk HM
  clear hn hc s0 hL hzW
  go_enter Tryz.func81, Tryz.ntmps81
  go_wp2_with fail
  clear hmk
  generalize ((w.alloc (.cells #[.int .i64 W, .int .i64 H, x, r, y] 39)).alloc (.cells (madeCells #[.int .i64 0] n) 3)) = WM at *
  go_loopw [5, 7, 8, 9, 15] (fun v5 _ _ _ s15 wr => ∃ q : Nat, q ≤ n ∧ s15 = .int .i64 q ∧ OwnI wr (w.heap.size + 1) v5 (idxC W (L.take q)) ∧ wr.cell? ⟨w.heap.size, 0, none⟩ = some (.int .i64 W) ∧ wr.cell? ⟨w.heap.size, 1, none⟩ = some (.int .i64 H) ∧ wr.cell? ⟨w.heap.size, 2, none⟩ = some (x) ∧ wr.cell? ⟨w.heap.size, 3, none⟩ = some (r) ∧ wr.cell? ⟨w.heap.size, 4, none⟩ = some (y) ∧ Kp w wr) (fun _ _ _ _ s15 _ => n - (intOf s15).toNat)
  case atStart => exact ⟨0, by omega, rfl, HM.out, sM⟩
  case round =>
    clear sM HM hzM
    obtain ⟨q, hqn, rfl, hoR, sr⟩ := hrel
    by_cases hlt : q < n
    · have hlt' : (q : Int) < n := by omega
      obtain ⟨g, off, rfl, hc⟩ := HV.out (by omega)
      obtain ⟨⟨px, py⟩, hp⟩ : ∃ p, L[q]? = some p := ⟨L[q]'(by have := HN.out; omega), List.getElem?_eq_getElem _⟩
      obtain ⟨a0, a1⟩ := hc q _ hp
      simp only at a0 a1
      have b0 := sr.2.2.2.2.2.cell a0
      have b1 := sr.2.2.2.2.2.cell a1
      obtain ⟨i1, i2, i3, i4⟩ := HLL.out _ (List.mem_of_getElem? hp)
      simp only at i1 i2 i3 i4
      have HS := Lib.hid (idxC_take (W := W) hp)
      simp only at HS
      have kb : Kp wr (wr.alloc (.cells #[.int .i64 px, .int .i64 py] 86)) := (Kp.refl _).alloc _
      have s1 := keep5 kb sr
      have HO1 := Lib.hid (hoR.keep kb)
      have CX : Hid (∀ w, Calls Tryz.prog 109 #[mp W H x r y, hx px py] w fun e w' => e = .returned (.tuple #[.int .i64 (idxM W px py), .bool true]) ∧ Kp w w') := Lib.hid fun w => by
        have := indexOfHex_any W H x r y px py w a b c e
        rw [inM_mk i1 i2 i3 i4, ib_true] at this
        exact this
      have ib := idxM_bd b e i1 i2 i3 i4
      have hln : Hid ((idxC W (L.take q)).length ≤ 2) := Lib.hid (by rw [idxC_len, List.length_take]; have := HN.out; omega)
      generalize idxM W px py = X at CX HS ib
      clear a0 a1 i1 i2 i3 i4 hc hp hoR sr
      go_wp2_with fail
      refine (CX.out _).mono ?_
      rintro e1 w1 ⟨rfl, k1⟩
      have s2 := keep5 k1 s1
      have O1 := Lib.hid (HO1.out.keep k1)
      have n1 := Lib.hid (O1.out.not (g := w.heap.size) (by omega))
      have hz1 := cellB s2.1
      simp only at hz1
      clear s1 HO1 k1 kb
      go_wp2_with (at_builtin; refine wpList_append_own_at _ rfl (.tmp 25) (.tmp 27) 26 rfl (w.heap.size + 1) 3 j0 (.int .i64 0) 1 8 Tryz.underlying26 hj0 hz0 hs0 hb0 rfl (by decide) _ (idxC W (L.take q)).length (cellsI (idxC W (L.take q))) rfl (World.ownsRow.alloc O1.out _) ⟨w1.heap.size, 0, none⟩ 1 1 [.int .i64 X] rfl rfl (one_cell _ _ _) (by simp [Value.oneCell']) (by have := hln.out; simp only [maxLen]; omega) (by have := hln.out; omega) (by simp; omega) ?_; intro v' w3 hown2 hgrow2 hnil2 hat2; clear hnil2 hat2; have s4 := keep5 ((Kp.refl w1).alloc (.cells #[.int .i64 X] 3)) s2; have s5 := grow5 hgrow2 (fun e => n1.out e.symm) (fun k e => by have := (World.ownsRow.lt O1.out k e).1; omega) s4; have O3 := Lib.hid (OwnI.snoc (x := X) hown2); clear s2 s4; clear hown2 hgrow2)
      go_roundw
      case rel => exact ⟨q + 1, by omega, by go_num, by rw [HS.out]; exact O3.out, s5⟩
      case measure => simp [intOf]; omega
    · obtain rfl : q = n := by omega
      have HE : Hid (idxC W (L.take q) = idxC W L) := Lib.hid (by rw [HN.out, List.take_length])
      rw [HE.out] at hoR
      go_wp2_with fail
      go_ret
      exact ⟨_, rfl, hoR.base (by omega), sr.2.2.2.2.2⟩
theorem OwnHH.sl {w : World} {base : Nat} {v : Value} {L : List (List (Int × Int))} {vs : List Value} (h : OwnHH w base v L vs) : ∃ A cp, v = .slice A L.length cp := by
  obtain ⟨A, cp, vs, e, _⟩ := h.rd
  exact ⟨A, cp, e⟩
theorem onep_of {N : Nat} (h : 1 ≤ N) : onep (N : Int) = N := by unfold onep; rw [if_neg (by omega)]
set_option maxRecDepth 100000 in
set_option maxHeartbeats 4000000 in
theorem sightCells_any (W H : Int) (x r y : Value) (i k : Int) (w : World) (a : 1 ≤ W) (b : W ≤ 10) (c : 1 ≤ H) (e : H ≤ 10) (hi : onI W H i = true) (hk : onI W H k = true) :
    Calls Tryz.prog 44 #[mp W H x r y, .int .i64 i, .int .i64 k] w fun e' w' => ∃ v vs, e' = .returned v ∧ OwnII w' w.heap.size v (sgtL W i k) vs ∧ Kp w w' := by
  have s0 := new5 w (.int .i64 W) (.int .i64 H) x r y 39
  obtain ⟨i1, i2, i3, i4⟩ := hex_bd a b (onI_true hi).1 (onI_true hi).2
  obtain ⟨k1, k2, k3, k4⟩ := hex_bd a b (onI_true hk).1 (onI_true hk).2
  have hA := area_bd a b c e
  obtain ⟨ii0, ii1⟩ := onI_true hi
  obtain ⟨kk0, kk1⟩ := onI_true hk
  have hha := okH_mk (q := i % W) (r := i / W) (by omega) (by omega) (by omega) (by omega)
  have hhb := okH_mk (q := k % W) (r := k / W) (by omega) (by omega) (by omega) (by omega)
  have hd := dist_bd hha hhb
  obtain ⟨N, hN⟩ : ∃ N : Nat, (N : Int) = distH (i % W) (i / W) (k % W) (k / W) := ⟨(distH (i % W) (i / W) (k % W) (k / W)).toNat, by omega⟩
  have hN2 : N ≤ 160 := by omega
  have HSG : Hid (sgtL W i k = sgF W (i % W) (i / W) (k % W) (k / W) (N : Int) (N - 1)) := Lib.hid (by
    unfold sgtL dstW
    rw [← hN, Int.toNat_natCast])
  have HIN : Hid (∀ u : Nat, 1 ≤ u → u < N → ∀ p ∈ cellsL (i % W * N + (k % W - i % W) * u) (i / W * N + (k / W - i / W) * u) N, 0 ≤ p.1 ∧ p.1 < W ∧ 0 ≤ p.2 ∧ p.2 < H) := Lib.hid fun u h1 h2 p hp => by
    obtain ⟨px, py⟩ := p
    exact cell_in (by omega) hN i1 i2 i3 i4 k1 k2 k3 k4 (by omega) (by omega) hp
  rw [HSG.out]
  obtain ⟨aq, haq⟩ : ∃ z, z = i % W := ⟨_, rfl⟩
  obtain ⟨ar, har⟩ : ∃ z, z = i / W := ⟨_, rfl⟩
  obtain ⟨bq, hbq⟩ : ∃ z, z = k % W := ⟨_, rfl⟩
  obtain ⟨br, hbr⟩ : ∃ z, z = k / W := ⟨_, rfl⟩
  have CH1 : Hid (∀ w, Calls Tryz.prog 80 #[mp W H x r y, .int .i64 i] w fun e w' => e = .returned (hx (i % W) (i / W)) ∧ Kp w w') := Lib.hid fun w => hexWithIndex_any W H x r y i w a b ii0 (by omega)
  have CH2 : Hid (∀ w, Calls Tryz.prog 80 #[mp W H x r y, .int .i64 k] w fun e w' => e = .returned (hx (k % W) (k / W)) ∧ Kp w w') := Lib.hid fun w => hexWithIndex_any W H x r y k w a b kk0 (by omega)
  have CL : Hid (∀ w, Calls Tryz.prog 79 #[hx (i % W) (i / W), hx (k % W) (k / W)] w fun e w' => ∃ v vs, e = .returned (.tuple #[v, .bool true]) ∧ OwnHH w' w.heap.size v (lineF (i % W) (i / W) (k % W) (k / W) (onep N) (N + 1)) vs ∧ Kp w w') := Lib.hid fun w => by
    have := lineOf_yes (i % W) (i / W) (k % W) (k / W) _ N w hha hhb hN rfl
    obtain ⟨hr9⟩ : True := trivial
    exact this.mono fun e w' ⟨v, vs, h1, h2, h3⟩ => ⟨v, vs, h1, by simpa using h2, h3⟩
  have HLT : Hid (∀ u : Nat, u < N + 1 → 1 ≤ N → (lineF (i % W) (i / W) (k % W) (k / W) (onep N) (N + 1))[u]? = some (cellsL (i % W * N + (k % W - i % W) * u) (i / W * N + (k / W - i / W) * u) N)) := Lib.hid fun u hu h1 => by
    rw [onep_of h1]
    exact lineF_at _ _ _ _ _ _ _ hu
  have HLL : Hid ((lineF (i % W) (i / W) (k % W) (k / W) (onep N) (N + 1)).length = N + 1) := Lib.hid (lineF_len _ _ _ _ _ _)
  rw [← haq, ← har, ← hbq, ← hbr] at HIN CL HLT HLL ⊢
  rw [← haq, ← har] at CH1
  rw [← hbq, ← hbr] at CH2
  generalize lineF aq ar bq br (onep N) (N + 1) = LN at CL HLT HLL
  clear hha hhb hd hN HSG haq har hbq hbr i1 i2 i3 i4 k1 k2 k3 k4 hA hi hk
  obtain ⟨j0, hj0, hz0, hs0, hb0⟩ := info_parts infoIntS
  go_enter Tryz.func44, Tryz.ntmps44
  go_wp2_with fail
  have s1 := drew5 s0
  clear s0
  go_region_held3 (fun w' => w'.cell? ⟨w.heap.size, 0, none⟩ = some (.int .i64 W) ∧ w'.cell? ⟨w.heap.size, 1, none⟩ = some (.int .i64 H) ∧ w'.cell? ⟨w.heap.size, 2, none⟩ = some (x) ∧ w'.cell? ⟨w.heap.size, 3, none⟩ = some (r) ∧ w'.cell? ⟨w.heap.size, 4, none⟩ = some (y) ∧ Kp w w') (first | assumption | exact s1)
    (first
      | (go_at_call_of 80 i; refine (CH1.out _).mono ?_; rintro e1 w1 ⟨rfl, ka⟩; have s2 := keep5 ka s1)
      | (go_at_call_of 80 k; refine (CH2.out _).mono ?_; rintro e2 w2 ⟨rfl, kb⟩; have s3 := keep5 kb s2)
      | (go_at_call 79; refine (CL.out _).mono ?_; rintro e3 w3 ⟨v, vs, rfl, o3, kc⟩; have s4 := keep5 kc s3; obtain ⟨AL, cL, rfl⟩ := o3.sl))
  have R4 := Lib.hid o3.rd
  have K03 := s4.2.2.2.2.2
  have hz3 := cellB s4.1
  simp only at hz3
  clear s1 s2 s3 o3
  rw [HLL.out]
  go_wp2_with fail
  go_loopw [9, 10] (fun v9 s10 wr => ∃ (u : Nat) (vs9 : List Value), 1 ≤ u ∧ (u ≤ N ∨ u = 1) ∧ s10 = .int .i64 u ∧ OwnII wr w3.heap.size v9 (sgF W aq ar bq br N (u - 1)) vs9 ∧ Kp w3 wr ∧ wr.cell? ⟨w.heap.size, 0, none⟩ = some (.int .i64 W) ∧ wr.cell? ⟨w.heap.size, 1, none⟩ = some (.int .i64 H) ∧ wr.cell? ⟨w.heap.size, 2, none⟩ = some (x) ∧ wr.cell? ⟨w.heap.size, 3, none⟩ = some (r) ∧ wr.cell? ⟨w.heap.size, 4, none⟩ = some (y)) (fun _ s10 _ => N - (intOf s10).toNat)
  case atStart => exact ⟨1, [], by omega, by omega, rfl, OwnII.nil _ _, Kp.refl w3, s4.1, s4.2.1, s4.2.2.1, s4.2.2.2.1, s4.2.2.2.2.1⟩
  case round =>
    obtain ⟨u, vs9, hu1, hu2, rfl, hoR, kr3, sr⟩ := hrel
    by_cases hlt : u < N
    · have hlt' : (u : Int) < N := by omega
      have hlt2 : (u : Int) < (N : Int) + 1 := by omega
      have hLu := HLT.out u (by omega) (by omega)
      obtain ⟨AL', cL', vsl, e9, hvl, h0, h1⟩ := R4.out
      simp only [Value.slice.injEq] at e9
      obtain ⟨e9, -, e10⟩ := e9
      subst e9
      subst e10
      obtain ⟨gL, oL, rfl, hcl⟩ := h0 (by rw [HLL.out]; omega)
      obtain ⟨xc, hxc⟩ : ∃ x, vsl[u]? = some x := ⟨vsl[u]'(by rw [hvl, HLL.out]; omega), List.getElem?_eq_getElem _⟩
      have hgL := cellB (hcl u xc hxc)
      simp only at hgL
      have cx := kr3.cell (hcl u xc hxc)
      have HX := Lib.hid (h1 u xc _ hxc hLu)
      have HCI := Lib.hid (HIN.out u hu1 hlt)
      have HSU : Hid (sgF W aq ar bq br N (u + 1 - 1) = sgF W aq ar bq br N (u - 1) ++ [idxC W (cellsL (aq * N + (bq - aq) * u) (ar * N + (br - ar) * u) N)]) := Lib.hid (by
        obtain ⟨t9, rfl⟩ : ∃ t9, u = t9 + 1 := ⟨u - 1, by omega⟩
        rw [Nat.add_sub_cancel, Nat.add_sub_cancel, sgF, Int.natCast_add, Int.natCast_one])
      have hcl2 := cellsL_len (aq * N + (bq - aq) * u) (ar * N + (br - ar) * u) N
      have hln : Hid ((sgF W aq ar bq br N (u - 1)).length ≤ 200) := Lib.hid (by rw [sgF_len]; omega)
      generalize cellsL (aq * N + (bq - aq) * u) (ar * N + (br - ar) * u) N = C0 at HX HCI HSU hcl2
      have CX : Hid (∀ w, RdH w xc C0 → Calls Tryz.prog 81 #[mp W H x r y, xc] w fun e' w' => ∃ v', e' = .returned v' ∧ OwnI w' w.heap.size v' (idxC W C0) ∧ Kp w w') := Lib.hid fun w h => indicesOfHexes_any W H x r y xc C0 w a b c e h HCI.out hcl2
      obtain ⟨nC, hnC⟩ : ∃ n, (idxC W C0).length = n := ⟨_, rfl⟩
      have HCL := Lib.hid hnC
      have HO := Lib.hid hoR
      have hzr := kr3.size
      have kV : Kp wr wr.drew := (Kp.refl _).drew
      have s5 : wr.drew.cell? ⟨w.heap.size, 0, none⟩ = some (.int .i64 W) ∧ wr.drew.cell? ⟨w.heap.size, 1, none⟩ = some (.int .i64 H) ∧ wr.drew.cell? ⟨w.heap.size, 2, none⟩ = some (x) ∧ wr.drew.cell? ⟨w.heap.size, 3, none⟩ = some (r) ∧ wr.drew.cell? ⟨w.heap.size, 4, none⟩ = some (y) ∧ wr.drew.cell? ⟨gL, oL + u, none⟩ = some xc ∧ Kp w3 wr.drew := ⟨sr.1, sr.2.1, sr.2.2.1, sr.2.2.2.1, sr.2.2.2.2, cx, kr3.drew⟩
      clear hcl h0 h1 hxc hLu hvl hnC hcl2 hoR cx sr kr3
      go_upto_region 6 with (fail)
      refine wp_region_held_drew (S := (fun w' => w'.cell? ⟨w.heap.size, 0, none⟩ = some (.int .i64 W) ∧ w'.cell? ⟨w.heap.size, 1, none⟩ = some (.int .i64 H) ∧ w'.cell? ⟨w.heap.size, 2, none⟩ = some (x) ∧ w'.cell? ⟨w.heap.size, 3, none⟩ = some (r) ∧ w'.cell? ⟨w.heap.size, 4, none⟩ = some (y) ∧ w'.cell? ⟨gL, oL + u, none⟩ = some xc ∧ Kp w3 w')) (by kernel_rfl) ?_ (fun hHeld => ?_)
      · assumption
      generalize wr.drew = V at *
      refine wpAnyH_take (i := 0) (oi := ⟨some 28, _, _, _, _, _⟩) (v := ?_) rfl (by kernel_rfl) (by kernel_rfl) (by kernel_rfl) (fun _ _ _ h => h) (Or.inl ⟨by rfl, ?_⟩) (by assumption) ?_
      rotate_left
      · intro w hSw; (try dsimp only at hSw); go_simp; (all_goals with_reducible rfl)
      try simp only [Act.put, List.setIfInBounds_toArray, List.set_cons_zero, List.set_cons_succ]
      refine wpAnyH_take (i := 1) (oi := ⟨some 29, _, _, _, _, _⟩) (v := ?_) rfl (by kernel_rfl) (by kernel_rfl) (by kernel_rfl) (fun _ _ _ h => h) (Or.inl ⟨by rfl, ?_⟩) (by assumption) ?_
      rotate_left
      · intro w hSw; (try dsimp only at hSw); go_simp; (all_goals with_reducible rfl)
      try simp only [Act.put, List.setIfInBounds_toArray, List.set_cons_zero, List.set_cons_succ]
      refine wpAnyH_take (i := 2) (oi := ⟨some 30, _, _, _, _, _⟩) (v := ?_) rfl (by kernel_rfl) (by kernel_rfl) (by kernel_rfl) (fun _ _ _ h => h) (Or.inl ⟨by rfl, ?_⟩) (by assumption) ?_
      rotate_left
      · intro w hSw; (try dsimp only at hSw); go_simp; (all_goals with_reducible rfl)
      try simp only [Act.put, List.setIfInBounds_toArray, List.set_cons_zero, List.set_cons_succ]
      refine wpAnyH_take (i := 3) (oi := ⟨some 31, _, _, _, _, _⟩) (v := ?_) rfl (by kernel_rfl) (by kernel_rfl) (by kernel_rfl) (fun _ _ _ h => h) (Or.inl ⟨by rfl, ?_⟩) (by assumption) ?_
      rotate_left
      · intro w hSw; (try dsimp only at hSw); go_simp; (all_goals with_reducible rfl)
      try simp only [Act.put, List.setIfInBounds_toArray, List.set_cons_zero, List.set_cons_succ]
      refine wpAnyH_take (i := 4) (oi := ⟨some 32, _, _, _, _, _⟩) (v := ?_) rfl (by kernel_rfl) (by kernel_rfl) (by kernel_rfl) (fun _ _ _ h => h) (Or.inl ⟨by rfl, ?_⟩) (by assumption) ?_
      rotate_left
      · intro w hSw; (try dsimp only at hSw); go_simp; (all_goals with_reducible rfl)
      try simp only [Act.put, List.setIfInBounds_toArray, List.set_cons_zero, List.set_cons_succ]
      refine wpAnyH_take (i := 5) (oi := ⟨some 33, _, _, _, _, _⟩) (v := ?_) rfl (by kernel_rfl) (by kernel_rfl) (by kernel_rfl) (fun _ _ _ h => h) (Or.inl ⟨by rfl, ?_⟩) (by assumption) ?_
      rotate_left
      · intro w hSw; (try dsimp only at hSw); go_simp; (all_goals with_reducible rfl)
      try simp only [Act.put, List.setIfInBounds_toArray, List.set_cons_zero, List.set_cons_succ]
      refine wpAnyH_ready (rs := [6]) (by kernel_rfl) (by simp) ?_
      refine (AllReadyH.cons (o := ⟨some 34, _, _, _, _, _⟩) rfl (fun K hK => ?_) AllReadyH.nil)
      go_simp
      refine (CX.out _ (HX.out.keep hHeld.2.2.2.2.2.2)).mono ?_
      rintro e5 w5 ⟨v5, rfl, o5, k5⟩
      have hS5 : w5.cell? ⟨w.heap.size, 0, none⟩ = some (.int .i64 W) ∧ w5.cell? ⟨w.heap.size, 1, none⟩ = some (.int .i64 H) ∧ w5.cell? ⟨w.heap.size, 2, none⟩ = some (x) ∧ w5.cell? ⟨w.heap.size, 3, none⟩ = some (r) ∧ w5.cell? ⟨w.heap.size, 4, none⟩ = some (y) ∧ w5.cell? ⟨gL, oL + u, none⟩ = some xc ∧ Kp w3 w5 := ⟨k5.cell hHeld.1, k5.cell hHeld.2.1, k5.cell hHeld.2.2.1, k5.cell hHeld.2.2.2.1, k5.cell hHeld.2.2.2.2.1, k5.cell hHeld.2.2.2.2.2.1, hHeld.2.2.2.2.2.2.trans k5⟩
      obtain ⟨A5, c5, hv5⟩ := o5.slice
      rw [HCL.out] at hv5
      subst hv5
      have kr5 := kV.trans k5
      have O5 := Lib.hid (o5.base (b := wr.heap.size) kV.size)
      have oRow := Lib.hid (ownsRow_keep HO.out.row kr5)
      have hz5 := kr5.size
      clear o5 k5 kV
      go_wp2_with fail
      refine hK.out _ _ ?_ (fun hHeld => ?_)
      · (try dsimp only); (first | assumption)
      clear hK K
      try simp only [Act.put, List.setIfInBounds_toArray, List.set_cons_zero, List.set_cons_succ]
      refine wpAnyH_ready (rs := [7]) (by kernel_rfl) (by simp) ?_
      refine (AllReadyH.cons (o := ⟨some 35, _, _, _, _, _⟩) rfl (fun K hK => ?_) AllReadyH.nil)
      go_simp
      go_wp2_with fail
      have hS7 : (w5.alloc (.cells #[.slice A5 nC c5] 26)).cell? ⟨w.heap.size, 0, none⟩ = some (.int .i64 W) ∧ (w5.alloc (.cells #[.slice A5 nC c5] 26)).cell? ⟨w.heap.size, 1, none⟩ = some (.int .i64 H) ∧ (w5.alloc (.cells #[.slice A5 nC c5] 26)).cell? ⟨w.heap.size, 2, none⟩ = some (x) ∧ (w5.alloc (.cells #[.slice A5 nC c5] 26)).cell? ⟨w.heap.size, 3, none⟩ = some (r) ∧ (w5.alloc (.cells #[.slice A5 nC c5] 26)).cell? ⟨w.heap.size, 4, none⟩ = some (y) ∧ (w5.alloc (.cells #[.slice A5 nC c5] 26)).cell? ⟨gL, oL + u, none⟩ = some xc ∧ Kp w3 (w5.alloc (.cells #[.slice A5 nC c5] 26)) := ⟨((Kp.refl w5).alloc (.cells #[.slice A5 nC c5] 26)).cell hHeld.1, ((Kp.refl w5).alloc (.cells #[.slice A5 nC c5] 26)).cell hHeld.2.1, ((Kp.refl w5).alloc (.cells #[.slice A5 nC c5] 26)).cell hHeld.2.2.1, ((Kp.refl w5).alloc (.cells #[.slice A5 nC c5] 26)).cell hHeld.2.2.2.1, ((Kp.refl w5).alloc (.cells #[.slice A5 nC c5] 26)).cell hHeld.2.2.2.2.1, ((Kp.refl w5).alloc (.cells #[.slice A5 nC c5] 26)).cell hHeld.2.2.2.2.2.1, hHeld.2.2.2.2.2.2.trans ((Kp.refl w5).alloc (.cells #[.slice A5 nC c5] 26))⟩
      refine hK.out _ _ ?_ (fun hHeld => ?_)
      · (try dsimp only); (first | assumption)
      clear hK K
      try simp only [Act.put, List.setIfInBounds_toArray, List.set_cons_zero, List.set_cons_succ]
      refine wpAnyH_ready (rs := [8]) (by kernel_rfl) (by simp) ?_
      refine (AllReadyH.cons (o := ⟨some 36, _, _, _, _, _⟩) rfl (fun K hK => ?_) AllReadyH.nil)
      refine step_append_at (.tmp 28) (.tmp 35) 32 rfl w3.heap.size 26 j0 (.slice none 0 0) 1 24 Tryz.underlying32 hj0 hz0 hs0 hb0 rfl (by decide) _ (sgF W aq ar bq br N (u - 1)).length vs9 rfl (World.ownsRow.alloc oRow.out _) ⟨w5.heap.size, 0, none⟩ 1 1 [.slice A5 nC c5] rfl rfl (cell_one _ _ _) (by simp [Value.oneCell']) (by have := hln.out; simp only [maxLen]; omega) (by have := hln.out; omega) (by simp; omega) ?_
      intro v' w6 hown2 hgrow2 hat2
      have n1 : some w.heap.size ≠ Value.ownBlock _ := fun e => by have := (World.ownsRow.lt oRow.out w.heap.size e.symm).1; omega
      have n2 : some gL ≠ Value.ownBlock _ := fun e => by have := (World.ownsRow.lt oRow.out gL e.symm).1; omega
      have hS8 : w6.cell? ⟨w.heap.size, 0, none⟩ = some (.int .i64 W) ∧ w6.cell? ⟨w.heap.size, 1, none⟩ = some (.int .i64 H) ∧ w6.cell? ⟨w.heap.size, 2, none⟩ = some (x) ∧ w6.cell? ⟨w.heap.size, 3, none⟩ = some (r) ∧ w6.cell? ⟨w.heap.size, 4, none⟩ = some (y) ∧ w6.cell? ⟨gL, oL + u, none⟩ = some xc ∧ Kp w3 w6 := ⟨hgrow2.cell hHeld.1 n1, hgrow2.cell hHeld.2.1 n1, hgrow2.cell hHeld.2.2.1 n1, hgrow2.cell hHeld.2.2.2.1 n1, hgrow2.cell hHeld.2.2.2.2.1 n1, hgrow2.cell hHeld.2.2.2.2.2.1 n2, hHeld.2.2.2.2.2.2.grown hgrow2 (fun k e => (World.ownsRow.lt oRow.out k e).1)⟩
      have O8 := Lib.hid (HO.out.snoc kr5 O5.out (by omega) hown2 hgrow2 hat2)
      clear hown2 hgrow2 hat2
      refine hK.out _ _ ?_ (fun hHeld => ?_)
      · (try dsimp only); (first | assumption)
      clear hK K
      try simp only [Act.put, List.setIfInBounds_toArray, List.set_cons_zero, List.set_cons_succ]
      refine wpAnyH_take (i := 9) (oi := ⟨some 9, _, _, _, _, _⟩) (v := ?_) rfl (by kernel_rfl) (by kernel_rfl) (by kernel_rfl) (fun _ _ _ h => h) (Or.inl ⟨by rfl, ?_⟩) (by assumption) ?_
      rotate_left
      · intro w hSw; (try dsimp only at hSw); go_simp; (all_goals with_reducible rfl)
      try simp only [Act.put, List.setIfInBounds_toArray, List.set_cons_zero, List.set_cons_succ]
      refine wpAnyH_done (by kernel_rfl) ?_ _
      go_wp2_with fail
      go_roundw
      case rel => exact ⟨u + 1, _, by omega, by omega, by go_num, by rw [HSU.out]; exact O8.out, hHeld.2.2.2.2.2.2, hHeld.1, hHeld.2.1, hHeld.2.2.1, hHeld.2.2.2.1, hHeld.2.2.2.2.1⟩
      case measure => simp [intOf]; omega
    · have hge : ¬ (u : Int) < N := by omega
      have hue : u - 1 = N - 1 := by omega
      rw [hue] at hoR
      go_wp2_with fail
      go_ret
      exact ⟨_, rfl, ⟨_, hoR.base (by omega)⟩, K03.trans kr3⟩

end Go.Proofs.YtfohhofpfmbheaaGreatDoor
