/-
  Texts of this seat in one module: PaP, PaQ.
-/
import Derived.WalkSmall
import Derived.Shelf.Strconv.ErrVarAll
import Derived.Test.YtbohefollbmhkaaGreatDoorQc
import Derived.Test.YtbohefollbmhkaaGreatDoorQf
import Derived.Test.YtbohefollbmhkaaGreatDoorQg
import Derived.Test.YtbohefollbmhkaaGreatDoorQj
import Derived.Test.YtbohefollbmhkaaGreatDoorQn
import Derived.Test.YtbohefollbmhkaaGreatDoorQo

/-
  Numbers to text and back, and the numbers of a line, by the program. Nothing that was there is changed. The named variables hold what the program's text lays.
-/
namespace Go.Proofs.YtbohefollbmhkaaGreatDoor
open Go.RowKit

theorem mem_join_le {c : UInt8} : ∀ {ws : List (List UInt8)} {y : List UInt8}, y ∈ ws → y.length ≤ (Lib.join ws [c]).length
  | [], _, h => by cases h
  | [x], y, h => by
    simp only [List.mem_cons, List.not_mem_nil, or_false] at h
    rw [h, Lib.join_cons]
    simp
  | x :: z :: ws, y, h => by
    rw [join_two]
    rcases List.mem_cons.1 h with rfl | h
    · simp
    · have := mem_join_le (c := c) h
      simp only [List.length_append, List.length_cons]
      omega
/-- The table of powers of ten, as its text lays it. -/
def PwAt (w : World) : Prop := Lib.TabIs Tryz.prog w "internal/strconv.uint64pow10" .u64 Lib.pow10Tab
theorem pwG : Tryz.prog.globalNamed "internal/strconv.uint64pow10" = some 8 := by kernel_rfl
theorem PwAt.keep {w w' : World} (h : PwAt w) (k : Kp w w') : PwAt w' := by
  have hc := World.var?_cell pwG h 0
  exact var?_below k pwG (cell_lt (v := .int .u64 1) (hc.trans rfl)) h
theorem esG : Tryz.prog.globalNamed "strconv.ErrSyntax" = some 10 := by kernel_rfl
theorem erG : Tryz.prog.globalNamed "strconv.ErrRange" = some 11 := by kernel_rfl
/-- The two faults of strconv are values of an interface. -/
def ErAt (w : World) : Prop := (∃ u v, w.var? Tryz.prog "strconv.ErrSyntax" = some #[.iface u v]) ∧ ∃ u v, w.var? Tryz.prog "strconv.ErrRange" = some #[.iface u v]
theorem ErAt.keep {w w' : World} (h : ErAt w) (k : Kp w w') : ErAt w' := by
  obtain ⟨⟨u, v, h1⟩, u2, v2, h2⟩ := h
  have hc := World.var?_cell esG h1 0
  have hd := World.var?_cell erG h2 0
  exact ⟨⟨u, v, var?_below k esG (cell_lt (v := .iface u v) (hc.trans rfl)) h1⟩, u2, v2, var?_below k erG (cell_lt (v := .iface u2 v2) (hd.trans rfl)) h2⟩
theorem itoaW_any (x : Int) (w : World) (h : isI64 x) (hp : PwAt w) :
    Calls Tryz.prog 55 #[.int .i64 x] w fun e w' => e = .returned (.string (txt (Lib.itoa x))) ∧ Kp w w' := by
  refine (Tryz.strconv_Itoa x h.1 h.2 w hp).mono fun e w' ⟨he, k, os, hw⟩ => ⟨he, ?_⟩
  subst hw
  refine ⟨rfl, rfl, rfl, ?_, fun j hj => ?_⟩
  · show w.heap.size ≤ (w.heap ++ os).size
    simp
  · show (w.heap ++ os)[j]? = w.heap[j]?
    exact Array.getElem?_append_left hj
theorem atoi_ok (s : ByteArray) (v : Int) (w : World) (hs : s.size ≤ 1048576) (h : Lib.atoiAll s.data.toList = .ok v) :
    Calls Tryz.prog 68 #[.string s] w fun e w' => e = .returned (.tuple #[.int .i64 v, .nilIface]) ∧ Kp w w' := by
  refine (Any.strconv_Atoi_ok Tryz.laysC172 s (by omega) v h w).mono fun e w' ⟨he, hw⟩ => ⟨he, ?_⟩
  rcases hw with rfl | ⟨t, rfl⟩
  · exact Kp.refl _
  · exact Lib.bytesWorld_below _ _ _
theorem atoi_no (s : ByteArray) (w : World) (hs : s.size ≤ 1048576) (h : ∀ v, Lib.atoiAll s.data.toList ≠ .ok v) (hE : ErAt w) :
    Calls Tryz.prog 68 #[.string s] w fun e w' => ∃ (r : Int) (p : Nat), e = .returned (.tuple #[.int .i64 r, .iface 126 (.pointer (some ⟨p, 0, none⟩))]) ∧ Kp w w' := by
  obtain ⟨⟨u, v, h1⟩, u2, v2, h2⟩ := hE
  cases e : Lib.atoiAll s.data.toList
  · exact absurd e (h _)
  · exact (Any.strconv_Atoi_syntax_var Tryz.laysC172 s (by omega) e u v w h1).mono fun e w' ⟨p, he, _, _, hk⟩ => ⟨_, p, he, hk⟩
  · exact (Any.strconv_Atoi_range_var Tryz.laysC172 s (by omega) e u2 v2 w h2).mono fun e w' ⟨p, he, _, _, hk⟩ => ⟨_, p, he, hk⟩

set_option maxRecDepth 100000 in
set_option maxHeartbeats 4000000 in
theorem namedNumbers_any (name : ByteArray) (v : Value) (ns : List Int) (w : World) (hr : RdI w v ns) (hn : ns.length ≤ 1048576)
    (hi : ∀ x ∈ ns, ∀ w', Kp w w' → Calls Tryz.prog 55 #[.int .i64 x] w' fun e w'' => e = .returned (.string (txt (Lib.itoa x))) ∧ Kp w' w'')
    (hsz : (name.data.toList ++ numsT ns).length ≤ 1000000000) :
    Calls Tryz.prog 31 #[.string name, v] w fun e w' => e = .returned (.string (txt (name.data.toList ++ numsT ns))) ∧ Kp w w' := by
  obtain ⟨A, c, rfl, hA⟩ := hr
  obtain ⟨j0, hj0, hz0, hs0, hb0⟩ := info_parts infoStrN
  obtain ⟨n, hnl⟩ : ∃ n, ns.length = n := ⟨_, rfl⟩
  rw [hnl] at hA hn ⊢
  have HN := Lib.hid hnl
  have HA := Lib.hid hA
  have HI := Lib.hid hi
  have HSZ := Lib.hid hsz
  have R0 : Hid ((w.alloc (.cells #[.string name] 9)).ownsRow w.heap.size 9 1 (.slice (some ⟨w.heap.size, 0, none⟩) 1 1) (0 + 1) ((name :: (ns.take 0).map fun x => txt (Lib.itoa x)).map Value.string)) := Lib.hid
    ⟨rfl, .inr ⟨w.heap.size, 1, #[.string name], rfl, Nat.le_refl _, Array.getElem?_push_size, Nat.le_refl _, by decide, rfl, rfl⟩⟩
  clear hnl hA hi hsz
  go_enter Tryz.func31, Tryz.ntmps31
  go_wp2_with fail
  go_loopw [5, 12] (fun v i wr => ∃ q : Nat, q ≤ n ∧ i = .int .i64 q ∧ Hid (wr.ownsRow w.heap.size 9 1 v (q + 1) ((name :: (ns.take q).map fun x => txt (Lib.itoa x)).map Value.string)) ∧ Kp w wr) (fun _ i _ => n - (intOf i).toNat)
  case atStart => exact ⟨0, by omega, rfl, R0, (Kp.refl w).alloc _⟩
  case round =>
    clear R0
    obtain ⟨q, hq, rfl, HO, kr⟩ := hrel
    have hz := kr.size
    by_cases hlt : q < n
    · have hlt' : (q : Int) < n := by omega
      obtain ⟨x, hx⟩ : ∃ x, ns[q]? = some x := ⟨ns[q]'(by have := HN.out; omega), List.getElem?_eq_getElem _⟩
      obtain ⟨g, off, rfl, hc⟩ := HA.out (by have := HN.out; omega)
      have a0 := kr.cell (hc q x hx)
      have CX := Lib.hid (HI.out x (List.mem_of_getElem? hx) _ kr)
      obtain ⟨s, hs⟩ : ∃ s, txt (Lib.itoa x) = s := ⟨_, rfl⟩
      rw [hs] at CX
      have HM : Hid ((name :: (ns.take (q + 1)).map fun x => txt (Lib.itoa x)).map Value.string = (name :: (ns.take q).map fun x => txt (Lib.itoa x)).map Value.string ++ [.string s]) := Lib.hid (by
        rw [List.take_add_one, hx, ← hs]
        simp)
      clear hx hc hs
      go_wp2_with fail
      refine CX.out.mono ?_
      rintro e1 w1 ⟨rfl, k1⟩
      have HO1 := Lib.hid (ownsRow_keep HO.out k1)
      have K1 := kr.trans k1
      have hz1 : w.heap.size ≤ w1.heap.size := by have := k1.size; omega
      clear k1 kr
      go_wp2_with (at_builtin; refine wpList_append_own_at _ rfl (.tmp 16) (.tmp 19) 83 rfl w.heap.size 9 j0 (.string ⟨#[]⟩) 1 16 Tryz.underlying83 hj0 hz0 hs0 hb0 rfl (by decide) _ (q + 1) _ rfl (World.ownsRow.alloc HO1.out _) ⟨w1.heap.size, 0, none⟩ 1 1 [.string s] rfl rfl (one_str _ _ _) (by simp [Value.oneCell']) (by simp only [maxLen]; omega) (by omega) (by simp <;> omega) ?_; intro v1 w3 hown2 hgrow2 hnil2 hat2; clear hnil2 hat2; have O3 : Hid (w3.ownsRow w.heap.size 9 1 v1 (q + 1 + 1) ((name :: (ns.take (q + 1)).map fun x => txt (Lib.itoa x)).map Value.string)) := Lib.hid (by rw [HM.out]; exact hown2); have K3 : Kp w w3 := (K1.alloc _).grown hgrow2 (fun k e => (World.ownsRow.lt HO1.out k e).1); clear hown2 hgrow2)
      go_roundw
      case rel => exact ⟨q + 1, by omega, by go_num, O3, K3⟩
      case measure => simp [intOf]; omega
    · obtain rfl : q = n := by omega
      obtain ⟨g4, c4, ev, hg4, hg5, hg6, hg7⟩ := row_shapeS HO.out (by omega)
      subst ev
      obtain ⟨xs, hxs⟩ : ∃ xs, xs = name :: ns.map fun x => txt (Lib.itoa x) := ⟨_, rfl⟩
      have hxl : xs.length = q + 1 := by rw [hxs, List.length_cons, List.length_map, HN.out]
      have HX : Hid (wr.ownsRow w.heap.size 9 1 (.slice (some ⟨g4, 0, none⟩) (q + 1) c4) (q + 1) (xs.map Value.string)) := Lib.hid (by
        have h1 := HO.out
        rw [List.take_of_length_le (by rw [HN.out]; omega), ← hxs] at h1
        exact h1)
      have hxd : xs.map (·.data.toList) = name.data.toList :: ns.map Lib.itoa := by
        rw [hxs, List.map_cons, List.map_map]
        congr 1
      have CJ := Lib.hid (Tryz.strings_Join g4 0 c4 xs ⟨#[32]⟩ wr (fun j x hx => by
        have h1 := World.ownsRow.cellAt HX.out j (by have := (List.getElem?_eq_some_iff.1 hx).1; omega)
        rw [Nat.zero_add]
        exact h1.trans (by rw [List.getElem?_map, hx]; rfl)) hg5 (by omega) (by omega) (by rw [hxd, show (ByteArray.mk #[32]).data.toList = [32] from rfl, numsT_join]; exact Nat.le_trans HSZ.out (by decide)))
      rw [hxl, hxd, show (ByteArray.mk #[32]).data.toList = [32] from rfl, numsT_join] at CJ
      obtain ⟨s, hs⟩ : ∃ s, s = ByteArray.mk (name.data.toList ++ numsT ns).toArray := ⟨_, rfl⟩
      rw [← hs] at CJ
      have HT : Hid (s = txt (name.data.toList ++ numsT ns)) := Lib.hid hs
      clear hxl hxd hxs hs HX HO
      go_wp2_with fail
      refine CJ.out.mono ?_
      rintro e3 w3 ⟨rfl, k3⟩
      go_wp2_with fail
      go_ret
      exact ⟨by rw [HT.out] <;> rfl, kr.trans k3⟩

set_option maxRecDepth 100000 in
set_option maxHeartbeats 4000000 in
theorem lineNumbers_any (s : ByteArray) (x : List UInt8) (r : List (List UInt8)) (w : World) (hs : s.size ≤ 1048576) (he : spl 32 s.data.toList = x :: r) (hE : ErAt w) :
    Calls Tryz.prog 57 #[.string s] w fun e w' => ListPostI (numsO r).isSome ((numsO r).getD []) w e w' := by
  obtain ⟨j0, hj0, hz0, hs0, hb0⟩ := info_parts infoInt
  have hjoin : s.data.toList = Lib.join (x :: r) [32] := by
    have := splA_join 32 s.data.toList []
    rw [show splA 32 [] s.data.toList = x :: r from he] at this
    rw [this]
    rfl
  have hno : ∀ y ∈ x :: r, (32 : UInt8) ∉ y := by
    rw [← he]
    exact splA_no 32 s.data.toList [] (by simp)
  have CS := Lib.hid (split_one s 32 x r w (by omega) hjoin hno)
  have HYS : Hid (∀ (k : Nat) y, r[k]? = some y → (txt y).size ≤ 1048576) := Lib.hid (fun k y hy => by
    have h1 : y.length ≤ s.size := by
      have h2 : y ∈ x :: r := by simp [List.mem_of_getElem? hy]
      rw [← len_byte s, hjoin]
      exact mem_join_le h2
    rw [txt_size]
    omega)
  obtain ⟨n, hn⟩ : ∃ n, r.length = n := ⟨_, rfl⟩
  have HN := Lib.hid hn
  have hnb : n ≤ 1048576 := by
    have h1 := count_join 32 r x hno
    rw [← hjoin, hn] at h1
    rw [← h1]
    exact Nat.le_trans List.count_le_length (by rw [len_byte]; exact hs)
  have HWC : Hid (∀ (k : Nat) y, r[k]? = some y → ∀ W1 : World, W1 = w.alloc (.cells ((x :: r).map fun y => Value.string (txt y)).toArray 9) → W1.cell? ⟨w.heap.size, 1 + k, none⟩ = some (.string (txt y))) := Lib.hid (fun k y hy W1 hW => by
    subst hW
    have h3 := World.cell?_alloc_new w ((x :: r).map fun y => Value.string (txt y)).toArray 9 (1 + k)
    rw [h3, List.getElem?_toArray, List.getElem?_map, Nat.add_comm, List.getElem?_cons_succ, hy]
    rfl)
  have K0 : ∀ W1 : World, W1 = w.alloc (.cells ((x :: r).map fun y => Value.string (txt y)).toArray 9) → Kp w W1 := fun W1 h => by
    rw [h]
    exact (Kp.refl w).alloc _
  rw [hn] at CS
  clear hn hjoin hno he
  by_cases hn0 : n = 0
  · subst hn0
    have hr : r = [] := List.eq_nil_of_length_eq_zero HN.out
    subst hr
    go_enter Tryz.func57, Tryz.ntmps57
    go_wp2_with fail
    refine CS.out.mono ?_
    rintro e1 W1 ⟨rfl, hW⟩
    have K1 := K0 W1 hW
    clear hW K0
    go_wp2_with fail
    go_loop [4, 13] (fun v iv => v = .slice none 0 0 ∧ iv = .int .i64 0) (fun _ _ => 0)
    case atStart => exact ⟨rfl, rfl⟩
    case round =>
      obtain ⟨rfl, rfl⟩ := hrel
      go_wp2_with fail
      go_ret2
      exact ⟨_, rfl, OwnI.nil _ _, K1⟩
  · have hn1 : 0 < n := by omega
    go_enter Tryz.func57, Tryz.ntmps57
    go_wp2_with fail
    refine CS.out.mono ?_
    rintro e1 W1 ⟨rfl, hW⟩
    have K1 := K0 W1 hW
    have HC := Lib.hid (fun k y h => HWC.out k y h W1 hW)
    have z1 := K1.size
    clear hW K0 HWC
    go_wp2_with fail
    go_loopw [4, 13] (fun v iv wr => ∃ k : Nat, k ≤ n ∧ iv = .int .i64 k ∧ Hid (OwnI wr W1.heap.size v ((r.take k).map atN)) ∧ Hid (∀ j y, j < k → r[j]? = some y → ∃ z, Lib.atoiAll y = .ok z) ∧ Kp W1 wr) (fun _ iv _ => n - (intOf iv).toNat)
    case atStart => exact ⟨0, by omega, rfl, Lib.hid (OwnI.nil _ _), Lib.hid (fun j y hj => absurd hj (by omega)), Kp.refl W1⟩
    case round =>
      obtain ⟨k, hk, rfl, hO, hP, kr⟩ := hrel
      by_cases hlt : k < n
      · have hlt' : (k : Int) < n := by omega
        obtain ⟨y, hy⟩ : ∃ y, r[k]? = some y := ⟨r[k]'(by have := HN.out; omega), List.getElem?_eq_getElem _⟩
        have a9 := kr.cell (HC.out k y hy)
        have hsz := HYS.out k y hy
        have HY := Lib.hid hy
        have e32 : (txt y).data.toList = y := by simp [txt]
        clear hy
        by_cases hok : ∃ z, Lib.atoiAll y = .ok z
        · obtain ⟨z, hz⟩ := hok
          have CA := Lib.hid (fun w => atoi_ok (txt y) z w hsz (by rw [e32]; exact hz))
          have HM : Hid ((r.take (k + 1)).map atN = (r.take k).map atN ++ [z]) := Lib.hid (by
            rw [List.take_add_one, HY.out]
            simp [atN, hz])
          have HP2 : Hid (∀ j y, j < k + 1 → r[j]? = some y → ∃ z, Lib.atoiAll y = .ok z) := Lib.hid (fun j y' hj hy' => by
            by_cases e : j = k
            · subst e
              rw [HY.out] at hy'
              obtain rfl := Option.some.inj hy'
              exact ⟨z, hz⟩
            · exact hP.out j y' (by omega) hy')
          have hln : Hid (((r.take k).map atN).length = k) := Lib.hid (by rw [List.length_map, List.length_take]; have := HN.out; omega)
          generalize (r.take k).map atN = L at hO HM hln
          obtain ⟨q, hq⟩ : ∃ q, txt y = q := ⟨_, rfl⟩
          rw [hq] at CA a9
          clear hz hsz e32 hq
          go_wp2_with fail
          refine (CA.out _).mono ?_
          rintro e2 w2 ⟨rfl, k2⟩
          have HO2 := Lib.hid (hO.out.keep k2)
          have K2 := kr.trans k2
          have z2 := K2.size
          clear hO k2 kr a9
          go_wp2_with (at_builtin; refine wpList_append_own_at _ rfl (.tmp 24) (.tmp 26) 43 rfl W1.heap.size 3 j0 (.int .i64 0) 1 8 Tryz.underlying43 hj0 hz0 hs0 hb0 rfl (by decide) _ L.length (cellsI L) rfl (World.ownsRow.alloc HO2.out _) ⟨w2.heap.size, 0, none⟩ 1 1 [.int .i64 z] rfl rfl (one_cell _ _ _) (by simp [Value.oneCell']) (by have := hln.out; simp only [maxLen]; omega) (by have := hln.out; omega) (by simp; omega) ?_; intro v' w3 hown2 hgrow2 hnil2 hat2; clear hnil2 hat2; have O3 : Hid (OwnI w3 W1.heap.size v' ((r.take (k + 1)).map atN)) := Lib.hid (by rw [HM.out]; exact OwnI.snoc hown2); have K3 : Kp W1 w3 := (K2.alloc _).grown hgrow2 (fun k e => (World.ownsRow.lt HO2.out k e).1); clear hown2 hgrow2)
          go_roundw
          case rel => exact ⟨k + 1, by omega, by go_num, O3, HP2, K3⟩
          case measure => simp [intOf]; omega
        · have CA := Lib.hid (fun w hE => atoi_no (txt y) w hsz (by rw [e32]; exact fun v e => hok ⟨v, e⟩) hE)
          have Hf := Lib.hid (numsO_no HY.out (fun v e => hok ⟨v, e⟩))
          have HEw := hE.keep (K1.trans kr)
          obtain ⟨q, hq⟩ : ∃ q, txt y = q := ⟨_, rfl⟩
          rw [hq] at CA a9
          clear hok hsz e32 hq
          go_wp2_with fail
          refine (CA.out _ HEw).mono ?_
          rintro e2 w2 ⟨z, p, rfl, k2⟩
          go_wp2_with fail
          go_ret2
          rw [Hf.out]
          exact ListPostI.no ((K1.trans kr).trans k2)
      · obtain rfl : k = n := by omega
        have Hf : Hid (numsO r = some (r.map atN)) := Lib.hid (numsO_all (fun j y hy => hP.out j y (by have := HN.out; have := (List.getElem?_eq_some_iff.1 hy).1; omega) hy))
        have hO2 := hO.out
        rw [List.take_of_length_le (by rw [HN.out]; omega)] at hO2
        have HO2 := Lib.hid (hO2.base z1)
        clear hO2
        go_wp2_with fail
        go_ret2
        rw [Hf.out]
        exact ⟨_, rfl, HO2.out, K1.trans kr⟩


end Go.Proofs.YtbohefollbmhkaaGreatDoor

/-
  SealedText of both sides. Nothing that was there is changed. The named variables hold what the program's text lays.
-/
namespace Go.Proofs.YtbohefollbmhkaaGreatDoor
open Go.RowKit

/-- The text of a seal. -/
def sealTx (e : Sea) : List UInt8 := [115, 101, 97, 108] ++ numsT [e.t, e.s, e.x]
theorem itoaN {n : Int} (h : 0 ≤ n) : Lib.itoa n = Lib.decDigits n.toNat := by
  unfold Lib.itoa
  rw [if_neg (by omega)]
theorem seaB_bd {e : Sea} (h : seaB e = true) : (0 ≤ e.t ∧ e.t ≤ 30) ∧ (0 ≤ e.s ∧ e.s ≤ 1) ∧ 0 ≤ e.x ∧ e.x ≤ 4611686016279904236 := by
  simpa [seaB, seedB, spB, Bool.and_eq_true] using h
theorem sealTx_dec {e : Sea} (h : seaB e = true) : sealTx e = [115, 101, 97, 108] ++ (32 :: Lib.decDigits e.t.toNat) ++ (32 :: Lib.decDigits e.s.toNat) ++ (32 :: Lib.decDigits e.x.toNat) := by
  obtain ⟨h1, h2, h3⟩ := seaB_bd h
  simp only [sealTx, numsT, List.flatMap_cons, List.flatMap_nil, itoaN h1.1, itoaN h2.1, itoaN h3.1, List.append_nil, List.append_assoc]
theorem dec_short (n : Nat) (h : n ≤ 9000000000000000000) : (Lib.decDigits n).length ≤ 19 := dec_le19 18 n (by omega)
theorem sealTx_len {e : Sea} (h : seaB e = true) : (sealTx e).length ≤ 64 := by
  obtain ⟨h1, h2, h3⟩ := seaB_bd h
  rw [sealTx_dec h]
  have a := dec_short e.t.toNat (by omega)
  have b := dec_short e.s.toNat (by omega)
  have c := dec_short e.x.toNat (by omega)
  simp only [List.length_append, List.length_cons, List.length_nil]
  omega
/-- What SealedText answers. -/
def stV (B : Bool) (l : List UInt8) : ByteArray := if B = true then txt l else ⟨#[]⟩
theorem keep4k {w w1 w2 : World} {p0 p1 p2 : Addr} {v0 v1 v2 : Value} (k : Kp w1 w2) (h : w1.cell? p0 = some v0 ∧ w1.cell? p1 = some v1 ∧ w1.cell? p2 = some v2 ∧ Kp w w1) : w2.cell? p0 = some v0 ∧ w2.cell? p1 = some v1 ∧ w2.cell? p2 = some v2 ∧ Kp w w2 :=
  ⟨k.cell h.1, k.cell h.2.1, k.cell h.2.2.1, h.2.2.2.trans k⟩

set_option maxRecDepth 100000 in
set_option maxHeartbeats 4000000 in
theorem sealedTextP_any (t s x : Int) (w : World) (hg0 : SpanAt w 0 0 30) (hg1 : SpanAt w 1 0 1) (hg2 : SpanAt w 2 0 4611686016279904236) (hp : PwAt w) :
    Calls Tryz.prog 9 #[slx t s x] w fun e w' => e = .returned (.tuple #[.string (stV (seaB ⟨t, s, x⟩) (sealTx ⟨t, s, x⟩)), .bool (seaB ⟨t, s, x⟩)]) ∧ Kp w w' := by
  have K0 : Kp w (w.alloc (.cells #[.int .i64 t, .int .i64 s, .int .i64 x] 29)) := (Kp.refl w).alloc _
  have R0 : SeaAt (w.alloc (.cells #[.int .i64 t, .int .i64 s, .int .i64 x] 29)) w.heap.size 0 ⟨t, s, x⟩ := ⟨by simp [go_sem], by simp [go_sem], by simp [go_sem]⟩
  have CI := Lib.hid (isSealedP_any t s x (w.alloc (.cells #[.int .i64 t, .int .i64 s, .int .i64 x] 29)) (K0.two hg0) (K0.two hg1) (K0.two hg2))
  cases hok : seaB ⟨t, s, x⟩
  · rw [hok] at CI
    clear hok
    go_enter Tryz.func9, Tryz.ntmps9
    go_wp2_with fail
    refine CI.out.mono ?_
    rintro e1 w1 ⟨rfl, k1⟩
    go_wp2_with fail
    go_ret2
    exact ⟨rfl, K0.trans k1⟩
  · rw [hok] at CI
    have hb := seaB_bd hok
    have hln := sealTx_len hok
    have HQ := Lib.hid (show stV true (sealTx ⟨t, s, x⟩) = txt ([115, 101, 97, 108] ++ numsT [t, s, x]) from rfl)
    have hI : ∀ z ∈ [t, s, x], isI64 z := by
      intro z hz
      simp only [List.mem_cons, List.not_mem_nil, or_false] at hz
      unfold isI64
      simp only at hb
      rcases hz with rfl | rfl | rfl <;> omega
    have CN := Lib.hid (fun (w1 : World) (m : Nat) (hm : w1.heap.size = m) (hp : PwAt w1) => namedNumbers_any ⟨#[115, 101, 97, 108]⟩ (.slice (some ⟨m, 0, none⟩) 3 3) [t, s, x] (w1.alloc (.cells #[.int .i64 t, .int .i64 s, .int .i64 x] 3)) (by rw [← hm]; exact rd3 w1 t s x 3) (by simp)
      (fun z hz w2 k2 => itoaW_any z w2 (hI z hz) ((hp.keep ((Kp.refl w1).alloc _)).keep k2)) (Nat.le_trans hln (by decide)))
    clear hok hb hln hI
    rw [show (ByteArray.mk #[115, 101, 97, 108]).data.toList = [115, 101, 97, 108] from rfl] at CN
    rw [HQ.out]
    generalize txt ([115, 101, 97, 108] ++ numsT [t, s, x]) = X at *
    clear HQ
    go_enter Tryz.func9, Tryz.ntmps9
    go_wp2_with fail
    refine CI.out.mono ?_
    rintro e1 w1 ⟨rfl, k1⟩
    obtain ⟨q0, q1, q2⟩ := R0.keep k1
    simp only [Nat.zero_add] at q0 q1 q2
    have hp1 := hp.keep (K0.trans k1)
    go_wp2_with fail
    refine (CN.out w1 _ rfl hp1).mono ?_
    rintro e2 w2 ⟨rfl, k2⟩
    go_wp2_with fail
    go_ret2
    exact ⟨rfl, ((K0.trans k1).alloc _).trans k2⟩

end Go.Proofs.YtbohefollbmhkaaGreatDoor
