/-
  The reference's draw of a list of hexes and a hex: the list in memory of its own; all that was there is as it was.
-/
import Derived.Test.YtmodcmkmfedgoaaDoorDrI
import Derived.Test.YtmodcmkmfedgoaaDoorOwnB
import Derived.Test.YtmodcmkmfedgoaaDoorNear
namespace Go.Proofs.YtmodcmkmfedgoaaDoor
open Go.RowKit

theorem hexC (base g K : Nat) (w : World) (h : Cu w base g K) (hK : K ≤ 90000) :
    Calls Tryd.prog 36 #[.pointer (some ⟨g, 0, none⟩)] w fun e w' => ∃ q r : Int, e = .returned (hx q r) ∧ Cu w' base g (K + 4) ∧ w.grownBy w' (some g) := by
  obtain ⟨A, n, c, p, h1, h2, h3, h4, h5, h6⟩ := h
  refine (hex_any g A n c p w h1 h2 (by omega) h3 (fun h0 a ha => (h6 h0 a ha).1)).mono ?_
  rintro e w' ⟨q, r, rfl, bd, ⟨p', hp', cu⟩, hg⟩
  exact ⟨q, r, rfl, ⟨A, n, c, p', cu, h2.grown hg (fun h0 a ha => (h6 h0 a ha).1), h3, by omega, h5, h6⟩, hg⟩
/-- A list of hexes under way beside the cursor, and a box for the answer. -/
structure LiH (w wr : World) (base g K b3 : Nat) (v : Value) (l : List (Int × Int)) : Prop where
  own : OwnH wr w.heap.size v l
  cu : Cu wr base g K
  gw : w.grownBy wr (some g)
  la : Live2 wr b3 (.int .i64 0) (.int .i64 0)
  b : base ≤ w.heap.size ∧ b3 ≠ g ∧ b3 < w.heap.size
theorem LiH.keep {w wr w2 : World} {base g K b3 : Nat} {v : Value} {l : List (Int × Int)} (h : LiH w wr base g K b3 v l) (k : Kp wr w2) : LiH w w2 base g K b3 v l :=
  ⟨h.own.keep k, h.cu.keep k, grown_keep h.gw k, live2_kp k h.la, h.b⟩
theorem LiH.le {w wr : World} {base g K K2 b3 : Nat} {v : Value} {l : List (Int × Int)} (h : LiH w wr base g K b3 v l) (k : K ≤ K2) : LiH w wr base g K2 b3 v l := ⟨h.own, h.cu.le k, h.gw, h.la, h.b⟩
theorem LiH.draw {w wr w2 : World} {base g K K2 b3 : Nat} {v : Value} {l : List (Int × Int)} (h : LiH w wr base g K b3 v l) (k : wr.grownBy w2 (some g)) (c2 : Cu w2 base g K2) : LiH w w2 base g K2 b3 v l :=
  ⟨World.ownsRow.kept h.own k (.inr (fun e => (h.own.not (g := g) (Nat.lt_of_lt_of_le c2.lt h.b.1)) e.symm)), c2, gwI_trans h.gw k, live2_grown k h.b.2.1 h.la, h.b⟩
theorem LiH.app {w wr w2 : World} {base g K b3 : Nat} {v v' : Value} {l l' : List (Int × Int)} {o : Obj} (h : LiH w wr base g K b3 v l) (k : (wr.alloc o).grownBy w2 v.ownBlock) (own : OwnH w2 w.heap.size v' l') : LiH w w2 base g K b3 v' l' := by
  have hv : ∀ b, v.ownBlock = some b → w.heap.size ≤ b := fun b e => (World.ownsRow.lt h.own b e).1
  have h2 := h.keep ((Kp.refl wr).alloc o)
  have n2 : (some b3 : Option Nat) ≠ v.ownBlock := h.own.not h.b.2.2
  exact ⟨own, h2.cu.own k (fun b e => by have := hv b e; have := h.b; omega), gw_own h2.gw k hv, ⟨⟨k.cell h2.la.1.1 n2, grown_frozen k h2.la.1.1 n2 h2.la.1.2⟩, ⟨k.cell h2.la.2.1 n2, grown_frozen k h2.la.2.1 n2 h2.la.2.2⟩⟩, h.b⟩
theorem LiH.fresh {w wr w2 : World} {base g K b3 : Nat} {v v' : Value} {l l' : List (Int × Int)} (h : LiH w wr base g K b3 v l) (k : Kp wr w2) (own : OwnH w2 wr.heap.size v' l') : LiH w w2 base g K b3 v' l' :=
  ⟨own.base h.gw.size, (h.keep k).cu, (h.keep k).gw, (h.keep k).la, h.b⟩
theorem OwnH.slice' {w : World} {base : Nat} {v : Value} {l : List (Int × Int)} (h : OwnH w base v l) : ∃ A c, v = .slice A l.length c := by
  obtain ⟨A, c, e, _⟩ := h.rd
  exact ⟨A, c, e⟩
theorem made_hex (n : Nat) (h : n = 60 ∨ n = 61) (w : World) : OwnH (w.alloc (.cells (madeCells #[.int .i64 0, .int .i64 0] (n * 2)) 25)) w.heap.size (.slice (some ⟨w.heap.size, 0, none⟩) n n) (List.replicate n (0, 0)) := by
  have e : (madeCells #[.int .i64 0, .int .i64 0] (n * 2)).toList = cellsH (List.replicate n (0, 0)) := by
    rcases h with rfl | rfl <;> kernel_rfl
  have h := World.ownsRow_lit (base := w.heap.size) (e := 25) (size := 2) w (madeCells #[.int .i64 0, .int .i64 0] (n * 2)) n (Nat.le_refl _) (by simp only [maxLen]; omega) (by rw [size_madeCells])
  unfold OwnH
  rw [List.length_replicate, ← e]
  exact h

/-- A list of hexes and a hex drawn. -/
def NearD (w : World) (e : Ending) (w' : World) : Prop :=
  ∃ (v : Value) (l : List (Int × Int)) (q r : Int), e = .returned (.tuple #[v, hx q r]) ∧ RdH w' v l ∧ l.length ≤ 100 ∧ Kp w w'
set_option maxRecDepth 100000 in
set_option maxHeartbeats 8000000 in
theorem drawNearestAlong_any (A : Option Addr) (n c : Nat) (w : World) (hb : RdBy w A n) (hn : n ≤ 9223372036854775807) :
    Calls Tryd.prog 15 #[.slice A n c] w (NearD w) := by
  obtain ⟨i0, hi0, hz0, hs0, hb0⟩ := info_parts infoHex
  have hlt := hb.lt
  obtain ⟨g, hg⟩ : ∃ g, g = w.heap.size + 1 := ⟨_, rfl⟩
  obtain ⟨base, hbase⟩ : ∃ b, b = w.heap.size + 1 + 1 := ⟨_, rfl⟩
  obtain ⟨W0, hW0⟩ : ∃ W0, W0 = (w.alloc (.cells #[.int .i64 0, .int .i64 0] 25)).alloc (.cells #[.slice A n c, .int .i64 0, .int .u64 0] 44) := ⟨_, rfl⟩
  have k0 : Kp w W0 := by rw [hW0]; exact ((Kp.refl w).alloc _).alloc _
  have hsz : base = W0.heap.size := by rw [hW0, hbase]; simp
  have c0 : Cu W0 base g 0 := by
    refine ⟨A, n, c, 0, ?_, hb.keep k0, hn, by omega, by omega, fun h0 a ha => ⟨by have := hlt h0 a ha; omega, by have := hlt h0 a ha; omega⟩⟩
    rw [hg, hW0]
    exact ⟨0, by omega, by simp [go_sem], ⟨by simp [go_sem], by simp [go_sem]⟩, ⟨by simp [go_sem], by simp [go_sem]⟩⟩
  have la : Live2 W0 w.heap.size (.int .i64 0) (.int .i64 0) := by rw [hW0]; exact ⟨by simp [go_sem], by simp [go_sem]⟩
  have S0 := Lib.hid (show LiH W0 W0 base g 0 w.heap.size (.slice none 0 0) [] from ⟨OwnH.nil _ _, c0, World.grownBy.refl W0 _, la, by omega, by omega, by omega⟩)
  have K0 := Lib.hid k0
  have HG := Lib.hid hg
  have END : Hid (∀ (wr : World) (v : Value) (l : List (Int × Int)) (K : Nat) (q r : Int), LiH W0 wr base g K w.heap.size v l → RdH ((wr.setCell ⟨w.heap.size, 0, none⟩ (.int .i64 q)).setCell ⟨w.heap.size, 1, none⟩ (.int .i64 r)) v l ∧ Kp w ((wr.setCell ⟨w.heap.size, 0, none⟩ (.int .i64 q)).setCell ⟨w.heap.size, 1, none⟩ (.int .i64 r))) := Lib.hid (fun wr v l K q r h => by
    have hne : v.ownBlock ≠ some w.heap.size := fun e => (h.own.not h.b.2.2) e.symm
    exact ⟨((h.own.far hne _).far hne _).rd, ((K0.out.grown h.gw (fun k e => by have := Option.some.inj e; have := HG.out; omega)).setCell (by simp) _).setCell (by simp) _⟩)
  clear hb hlt k0 c0 hbase la hsz
  go_enter Tryd.func15, Tryd.ntmps15
  go_upto_region 2 with fail
  rw [← hW0, ← hg]
  clear hW0 hg
  go_wp2_with fail
  refine (pickC base g _ 7 _ S0.out.cu (by omega) (by omega) (by omega)).mono ?_
  rintro e1 w1 ⟨k1, rfl, kl, kh, c1, g1⟩
  have S1 := Lib.hid (S0.out.draw g1 c1)
  clear S0 c1 g1
  obtain ⟨kn, rfl⟩ : ∃ n : Nat, k1 = n := ⟨k1.toNat, by omega⟩
  have hkn : kn ≤ 6 := by omega
  clear kl kh
  go_wp2_with fail
  go_loopw [5, 6] (fun v sk wr => ∃ (k : Nat) (l : List (Int × Int)), k ≤ 6 ∧ sk = .int .i64 k ∧ l.length + k ≤ 6 ∧ Hid (LiH W0 wr base g (0 + 1 + 4 * (6 - k)) w.heap.size v l)) (fun _ sk _ => (intOf sk).toNat)
  case atStart => exact ⟨kn, [], hkn, rfl, by simpa using hkn, Lib.hid (S1.out.le (by omega))⟩
  case round =>
    clear S1
    obtain ⟨k, l, hk, rfl, hl, SR⟩ := hrel
    obtain ⟨Av, cv, hv⟩ := SR.out.own.slice'
    subst hv
    by_cases hlt : 0 < k
    · have hlt' : (0 : Int) < k := by omega
      go_wp2_with fail
      refine (hexC base g _ _ SR.out.cu (by omega)).mono ?_
      rintro e2 w2 ⟨q, r, rfl, c2, q2⟩
      have SX := Lib.hid (SR.out.draw q2 c2)
      clear SR c2 q2
      have HO := Lib.hid SX.out.own
      have HSZ := Lib.hid SX.out.gw.size
      go_wp2_with (at_builtin; refine wpList_append_own_at _ rfl (.tmp 16) (.tmp 19) 28 rfl W0.heap.size 25 i0 (hx 0 0) 2 16 Tryd.underlying28 hi0 hz0 hs0 hb0 rfl (by decide) _ l.length (cellsH l) rfl (World.ownsRow.alloc HO.out _) ⟨w2.heap.size, 0, none⟩ 1 1 [.int .i64 q, .int .i64 r] rfl rfl (two_new _ _ _ _) (by simp [Value.oneCell']) (by simp only [maxLen]; omega) (by omega) (by have := HSZ.out; simp; omega) ?_; intro v' w9 hown2 hgrow2 hnil2 hat2; clear hnil2 hat2; have S9 := Lib.hid (LiH.app SX.out hgrow2 (OwnH.snoc (l := l) (x := (q, r)) hown2)); clear hown2 hgrow2)
      go_roundw
      case rel => exact ⟨k - 1, l ++ [(q, r)], by omega, by first | go_num | (congr 1; omega), by simp; omega, Lib.hid (S9.out.le (by omega))⟩
      case measure => simp [intOf]; omega
    · obtain rfl : k = 0 := by omega
      go_wp2_with fail
      refine (pickC base g _ 24 _ SR.out.cu (by omega) (by omega) (by omega)).mono ?_
      rintro e3 w3 ⟨x, rfl, x0, x23, c3, g3⟩
      have S3 := Lib.hid (SR.out.draw g3 c3)
      clear SR c3 g3
      by_cases hx0 : x = 0
      · subst hx0
        go_wp2_with fail
        refine (anyHexC base g _ _ S3.out.cu (by omega)).mono ?_
        rintro e4 w4 ⟨q, r, rfl, bd4, c4, g4⟩
        have SX := Lib.hid (S3.out.draw g4 c4)
        clear S3 c4 g4
        have HO := Lib.hid SX.out.own
        have HSZ := Lib.hid SX.out.gw.size
        go_wp2_with (at_builtin; refine wpList_append_own_at _ rfl (.tmp 25) (.tmp 28) 28 rfl W0.heap.size 25 i0 (hx 0 0) 2 16 Tryd.underlying28 hi0 hz0 hs0 hb0 rfl (by decide) _ l.length (cellsH l) rfl (World.ownsRow.alloc HO.out _) ⟨w4.heap.size, 0, none⟩ 1 1 [.int .i64 q, .int .i64 r] rfl rfl (two_new _ _ _ _) (by simp [Value.oneCell']) (by simp only [maxLen]; omega) (by omega) (by have := HSZ.out; simp; omega) ?_; intro v' w9 hown2 hgrow2 hnil2 hat2; clear hnil2 hat2; have S9 := Lib.hid (LiH.app SX.out hgrow2 (OwnH.snoc (l := l) (x := (q, r)) hown2)); clear hown2 hgrow2)
        refine (anyHexC base g _ _ S9.out.cu (by omega)).mono ?_
        rintro e8 w8 ⟨q', r', rfl, b8, c8, g8⟩
        have S8 := Lib.hid (S9.out.draw g8 c8)
        clear S9 c8 g8
        obtain ⟨⟨p0, p1⟩, p2, p3⟩ := S8.out.la
        go_wp2_with fail
        obtain ⟨e1, e2⟩ := END.out _ _ _ _ q' r' S8.out
        exact bodyPost_ret (v := .tuple #[v', hx q' r']) (by simp [results, Tryd.results15, go_sem, *]) rfl ⟨_, l ++ [(q, r)], q', r', rfl, e1, by first | omega | (simp; omega), e2⟩
      · have hx0e : (x == 0) = false := by simpa using hx0
        by_cases hx1 : x = 1
        · subst hx1
          clear hx0
          go_wp2_with fail
          refine (pickC base g _ 2 _ S3.out.cu (by omega) (by omega) (by omega)).mono ?_
          rintro e4 w4 ⟨y, rfl, y0, y1, c4, g4⟩
          have S4 := Lib.hid (S3.out.draw g4 c4)
          clear S3 c4 g4
          obtain ⟨nn, hnn⟩ : ∃ nn : Nat, (nn : Int) = 60 + y := ⟨(60 + y).toNat, by omega⟩
          have h6 : nn = 60 ∨ nn = 61 := by omega
          have hmk : ∀ w : World, (Instr.makeSlice 28 (.int .i64 (60 + y)) (.int .i64 (60 + y))).run Tryd.prog w = .ok (.slice (some ⟨w.heap.size, 0, none⟩) nn nn) (w.alloc (.cells (madeCells (hx 0 0).cells (nn * 2)) 25)) := fun w => by
            have h := mkHexN nn (by omega) w
            rw [hnn] at h
            exact h
          have S9 := Lib.hid (S4.out.fresh ((Kp.refl w4).alloc _) (made_hex nn h6 w4))
          clear S4
          go_upto_region 12 with fail
          clear hmk
          generalize w4.alloc (.cells (madeCells #[.int .i64 0, .int .i64 0] (nn * 2)) 25) = W9 at *
          go_wp2_with fail
          refine (anyHexC base g _ _ S9.out.cu (by omega)).mono ?_
          rintro e8 w8 ⟨q', r', rfl, b8, c8, g8⟩
          have S8 := Lib.hid (S9.out.draw g8 c8)
          clear S9 c8 g8
          obtain ⟨⟨p0, p1⟩, p2, p3⟩ := S8.out.la
          go_wp2_with fail
          obtain ⟨e1, e2⟩ := END.out _ _ _ _ q' r' S8.out
          exact bodyPost_ret (v := .tuple #[.slice (some ⟨w4.heap.size, 0, none⟩) nn nn, hx q' r']) (by simp [results, Tryd.results15, go_sem, *]) rfl ⟨_, List.replicate nn (0, 0), q', r', rfl, e1, by first | omega | (simp; omega), e2⟩
        · have hx1e : (x == 1) = false := by simpa using hx1
          have S9 := S3
          clear S3
          go_wp2_with fail
          refine (anyHexC base g _ _ S9.out.cu (by omega)).mono ?_
          rintro e8 w8 ⟨q', r', rfl, b8, c8, g8⟩
          have S8 := Lib.hid (S9.out.draw g8 c8)
          clear S9 c8 g8
          obtain ⟨⟨p0, p1⟩, p2, p3⟩ := S8.out.la
          go_wp2_with fail
          obtain ⟨e1, e2⟩ := END.out _ _ _ _ q' r' S8.out
          exact bodyPost_ret (v := .tuple #[.slice Av l.length cv, hx q' r']) (by simp [results, Tryd.results15, go_sem, *]) rfl ⟨_, l, q', r', rfl, e1, by first | omega | (simp; omega), e2⟩

end Go.Proofs.YtmodcmkmfedgoaaDoor
