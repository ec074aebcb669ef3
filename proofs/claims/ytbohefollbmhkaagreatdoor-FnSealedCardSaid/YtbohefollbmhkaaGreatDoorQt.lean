/-
  Texts of this seat in one module: DrV.
-/
import Derived.Deep.Cut
import Derived.Deep.RegionHeld3
import Derived.OwnWalk
import Derived.Maps.AppendAt
import Derived.Test.YtbohefollbmhkaaGreatDoorQs

/-
  The reference's draws of openings to be sealed, of rows of seals and openings, of the parts of a joint seed: all that was there is as it was.
-/
namespace Go.Proofs.YtbohefollbmhkaaGreatDoor
open Go.RowKit

theorem fieldSl0 (a b c : Int) (w : World) : (Instr.field 29 (slx a b c) 0).run Tryz.prog w = .ok (.int .i64 a) w := by kernel_rfl
/-- Two rows in memory of their own, apart. -/
def TwR (W : World) (base : Nat) (v u : Value) (l : List Sea) (m : List Opn) : Prop :=
  OwnSl W base v l ∧ OwnOp W base u m ∧ (∀ j, v.ownBlock = some j → u.ownBlock ≠ some j)
theorem three_new (w : World) (x y z : Value) (t : TypeId) : ∀ j u, [x, y, z][j]? = some u → (w.alloc (.cells #[x, y, z] t)).cell? ((⟨w.heap.size, 0, none⟩ : Addr).add j) = some u := by
  intro j u hj
  match j, hj with
  | 0, hj => simp at hj; subst hj; simp [Addr.add]
  | 1, hj => simp at hj; subst hj; simp [Addr.add]
  | 2, hj => simp at hj; subst hj; simp [Addr.add]
theorem Bx3.put {W : World} {b : Nat} {a0 a1 a2 : Int} (h : Bx3 W b a0 a1 a2) (x y z : Int) : Bx3 (((W.setCell ⟨b, 0, none⟩ (.int .i64 x)).setCell ⟨b, 1, none⟩ (.int .i64 y)).setCell ⟨b, 2, none⟩ (.int .i64 z)) b x y z := by
  obtain ⟨⟨c0, c1, c2⟩, f0, f1, f2⟩ := h
  exact ⟨⟨by simp [go_sem, *], by simp [go_sem, *], by simp [go_sem, *]⟩, by simp [go_sem, *], by simp [go_sem, *], by simp [go_sem, *]⟩
theorem Bxo.row {W W' : World} {b : Nat} {row : Option Nat} {n : Int} {s : ByteArray} (h : Bxo W b n s) (k : W.grownBy W' row) (ne : some b ≠ row) : Bxo W' b n s :=
  ⟨⟨k.cell h.1.1 ne, k.cell h.1.2 ne⟩, grown_frozen k h.1.1 ne h.2.1, grown_frozen k h.1.2 ne h.2.2⟩
theorem TwR.nil (W : World) (base : Nat) : TwR W base (.slice none 0 0) (.slice none 0 0) [] [] := ⟨OwnSl.nil _ _, OwnOp.nil _ _, fun j e => by cases e⟩
theorem row_far {W W' : World} {base : Nat} {e : TypeId} {s n : Nat} {v : Value} {xs : List Value} {row : Option Nat} (h : W.ownsRow base e s v n xs) (k : W.grownBy W' row) (hr : ∀ j, row = some j → v.ownBlock ≠ some j) : W'.ownsRow base e s v n xs :=
  World.ownsRow.kept h k (by
    cases hv : v.ownBlock
    · exact .inl rfl
    · rename_i j
      refine .inr fun e => ?_
      exact hr j e.symm hv)
theorem TwR.grown {W W' : World} {base : Nat} {v u : Value} {l : List Sea} {m : List Opn} {g : Nat} (h : TwR W base v u l m) (k : W.grownBy W' (some g)) (hg : g < base) : TwR W' base v u l m :=
  ⟨row_far h.1 k (fun j e => by cases e; exact h.1.not hg), row_far h.2.1 k (fun j e => by cases e; exact h.2.1.not hg), h.2.2⟩
theorem TwR.keep {W W' : World} {base : Nat} {v u : Value} {l : List Sea} {m : List Opn} (h : TwR W base v u l m) (k : Kp W W') : TwR W' base v u l m := ⟨h.1.keep k, h.2.1.keep k, h.2.2⟩
theorem TwR.set {W : World} {base : Nat} {v u : Value} {l : List Sea} {m : List Opn} (h : TwR W base v u l m) (q j : Nat) (x : Value) (h1 : v.ownBlock ≠ some q) (h2 : u.ownBlock ≠ some q) : TwR (W.setCell ⟨q, j, none⟩ x) base v u l m := ⟨h.1.far h1 x, h.2.1.far h2 x, h.2.2⟩
theorem TwR.app1 {W W' : World} {base : Nat} {v u v' : Value} {l : List Sea} {m : List Opn} {t s x : Int} (h : TwR W base v u l m) (hown : W'.ownsRow base 29 3 v' (l.length + 1) (cellsSl l ++ [.int .i64 t, .int .i64 s, .int .i64 x])) (k : W.grownBy W' v.ownBlock) (hat : v'.ownBlock = v.ownBlock ∨ v'.ownBlock = some W.heap.size) : TwR W' base v' u (l ++ [⟨t, s, x⟩]) m := by
  refine ⟨?_, row_far h.2.1 k h.2.2, fun j e => ?_⟩
  · unfold OwnSl
    rw [cellsSl_append, List.length_append]
    exact hown
  · rcases hat with a | a
    · exact h.2.2 j (a ▸ e)
    · rw [a] at e
      obtain rfl := Option.some.inj e
      intro e2
      have := (World.ownsRow.lt h.2.1 _ e2).2
      omega
theorem TwR.app2 {W W' : World} {base : Nat} {v u u' : Value} {l : List Sea} {m : List Opn} {n : Int} {s : ByteArray} (h : TwR W base v u l m) (hown : W'.ownsRow base 25 2 u' (m.length + 1) (cellsOp m ++ [.int .i64 n, .string s])) (k : W.grownBy W' u.ownBlock) (hat : u'.ownBlock = u.ownBlock ∨ u'.ownBlock = some W.heap.size) : TwR W' base v u' l (m ++ [⟨n, s⟩]) := by
  refine ⟨row_far h.1 k (fun j e e2 => h.2.2 j e2 e), ?_, fun j e => ?_⟩
  · unfold OwnOp
    rw [cellsOp_append, List.length_append]
    exact hown
  · rcases hat with a | a
    · rw [a]
      exact h.2.2 j e
    · rw [a]
      intro e2
      obtain rfl := Option.some.inj e2
      have := (World.ownsRow.lt h.1 _ e).2
      omega
set_option maxRecDepth 100000 in
set_option maxHeartbeats 8000000 in
theorem drawSealOrders_any (A : Option Addr) (n c : Nat) (w : World) (hb : RdBy w A n) (hn : n ≤ 9223372036854775807) :
    Calls Tryz.prog 5 #[.slice A n c] w fun e w' => ∃ (t s n : Int) (x : ByteArray), e = .returned (.tuple #[.int .i64 t, .int .i64 s, opx n x]) ∧ x.size ≤ 151 ∧ Kp w w' := by
  have hlt := hb.lt
  obtain ⟨g, hg⟩ : ∃ g, g = w.heap.size + 1 := ⟨_, rfl⟩
  obtain ⟨base, hbase⟩ : ∃ b, b = w.heap.size + 1 + 1 := ⟨_, rfl⟩
  obtain ⟨W0, hW0⟩ : ∃ W0, W0 = ((w.alloc (.cells #[.int .i64 0, .string ⟨#[]⟩] 25)).alloc (.cells #[.slice A n c, .int .i64 0, .int .u64 0] 54)) := ⟨_, rfl⟩
  have k0 : Kp w W0 := by rw [hW0]; exact ((Kp.refl w).alloc _).alloc _
  have hsz : base = W0.heap.size := by rw [hW0, hbase]; simp
  have c0 : Cu W0 base g 0 := by
    refine ⟨A, n, c, 0, ?_, hb.keep k0, hn, by omega, by omega, fun h0 a ha => ⟨by have := hlt h0 a ha; omega, by have := hlt h0 a ha; omega⟩⟩
    rw [hg, hW0]
    exact ⟨0, by omega, by simp [go_sem], ⟨by simp [go_sem], by simp [go_sem]⟩, ⟨by simp [go_sem], by simp [go_sem]⟩⟩
  have hgw : w.heap.size ≤ g := by omega
  have hgb : g < base := by omega
  have hwb : w.heap.size ≤ base := by omega
  have T0 : Bxo W0 w.heap.size 0 ⟨#[]⟩ := by rw [hW0]; exact (Bxo.new w 0 ⟨#[]⟩ 25).keep ((Kp.refl _).alloc _)
  have hN : w.heap.size ≠ g := by omega
  have CS := Lib.hid (sealedC base g 0 W0 c0 (by omega) (by omega))
  have CO := Lib.hid (fun w hc hb => openingC base g 12 w hc (by omega) hb)
  clear hb hlt hbase
  go_enter Tryz.func5, Tryz.ntmps5
  go_wp2_with fail
  rw [← hW0, ← hg]
  clear hW0 hg c0
  refine CS.out.mono ?_
  clear CS
  rintro e1 w1 ⟨t, s, x, rfl, C1⟩
  have T1 := (T0.draw C1.2 hN).keep ((Kp.refl w1).alloc (.cells #[.int .i64 t, .int .i64 s, .int .i64 x] 29))
  have z1 : base ≤ w1.heap.size := by rw [hsz]; exact C1.2.size
  have z2 : base ≤ (w1.alloc (.cells #[.int .i64 t, .int .i64 s, .int .i64 x] 29)).heap.size := by simp; omega
  have K1 : Kp w (w1.alloc (.cells #[.int .i64 t, .int .i64 s, .int .i64 x] 29)) := (k0.grown C1.2 (fun k e => by have := Option.some.inj e; omega)).trans ((Kp.refl w1).alloc _)
  have D1 := C1.1.keep ((Kp.refl w1).alloc (.cells #[.int .i64 t, .int .i64 s, .int .i64 x] 29))
  have s2 : (w1.alloc (.cells #[.int .i64 t, .int .i64 s, .int .i64 x] 29)).cell? ⟨w1.heap.size, 0, none⟩ = some (.int .i64 t) ∧ (w1.alloc (.cells #[.int .i64 t, .int .i64 s, .int .i64 x] 29)).cell? ⟨w1.heap.size, 1, none⟩ = some (.int .i64 s) := by simp [go_sem]
  clear C1 T0 k0
  go_upto_region 3 with fail
  obtain ⟨b5, hb5⟩ : ∃ b, b = w1.heap.size := ⟨_, rfl⟩
  rw [← hb5] at s2 z1 ⊢
  generalize w1.alloc (.cells #[.int .i64 t, .int .i64 s, .int .i64 x] 29) = W1 at *
  have n3 : b5 ≠ g := by omega
  have n1 : b5 ≠ w.heap.size := by omega
  have n2 : w.heap.size ≠ b5 := by omega
  clear hb5 w1 hsz
  have kd := (Kp.refl W1).drew
  have Dd := Lib.hid (D1.keep kd)
  have Td := T1.keep kd
  have sd := kd.two s2
  have Kd := K1.trans kd
  have zd : base ≤ W1.drew.heap.size := z2
  clear D1 T1 s2 K1 kd z2
  go_wp2_with fail
  go_region_held3 (fun w' => w'.cell? ⟨b5, 0, none⟩ = some (.int .i64 t) ∧ w'.cell? ⟨b5, 1, none⟩ = some (.int .i64 s)) (first | assumption | go_keep)
    (first
      | (go_at_call 22; refine (CO.out _ Dd.out zd).mono ?_; rintro e3 w3 ⟨n', x', rfl, hx, C3⟩; have T3 := Td.draw C3.2 hN; have s3 : w3.cell? ⟨b5, 0, none⟩ = some (.int .i64 t) ∧ w3.cell? ⟨b5, 1, none⟩ = some (.int .i64 s) := ⟨C3.2.cell sd.1 (fun e => n3 (Option.some.inj e)), C3.2.cell sd.2 (fun e => n3 (Option.some.inj e))⟩; have K3 : Kp w w3 := Kd.grown C3.2 (fun k e => by have := Option.some.inj e; omega); clear C3 Td sd Kd Dd zd CO; obtain ⟨⟨c0, c1⟩, f0, f1⟩ := T3))
  go_wp2_with fail
  exact bodyPost_ret (v := .tuple #[.int .i64 t, .int .i64 s, opx n' x']) (by simp [results, Tryz.results5, go_sem, *]) rfl ⟨t, s, n', x', rfl, hx, (K3.setCell (by simp) _).setCell (by simp) _⟩

set_option maxRecDepth 100000 in
set_option maxHeartbeats 8000000 in
theorem drawJointSeed_any (A : Option Addr) (n c : Nat) (w : World) (hb : RdBy w A n) (hn : n ≤ 9223372036854775807) :
    Calls Tryz.prog 18 #[.slice A n c] w fun e w' => ∃ (x : Int) (v : Value) (l : List Int), e = .returned (.tuple #[.int .i64 x, v]) ∧ RdI w' v l ∧ l.length ≤ 6 ∧ Kp w w' := by
  have hlt := hb.lt
  obtain ⟨g, hg⟩ : ∃ g, g = w.heap.size := ⟨_, rfl⟩
  obtain ⟨base, hbase⟩ : ∃ b, b = w.heap.size + 1 := ⟨_, rfl⟩
  obtain ⟨W0, hW0⟩ : ∃ W0, W0 = (w.alloc (.cells #[.slice A n c, .int .i64 0, .int .u64 0] 54)) := ⟨_, rfl⟩
  have k0 : Kp w W0 := by rw [hW0]; exact (Kp.refl w).alloc _
  have hsz : base = W0.heap.size := by rw [hW0, hbase]; simp
  have c0 : Cu W0 base g 0 := by
    refine ⟨A, n, c, 0, ?_, hb.keep k0, hn, by omega, by omega, fun h0 a ha => ⟨by have := hlt h0 a ha; omega, by have := hlt h0 a ha; omega⟩⟩
    rw [hg, hW0]
    exact ⟨0, by omega, by simp [go_sem], ⟨by simp [go_sem], by simp [go_sem]⟩, ⟨by simp [go_sem], by simp [go_sem]⟩⟩
  have hgw : w.heap.size ≤ g := by omega
  have hgb : g < base := by omega
  have hwb : w.heap.size ≤ base := by omega
  obtain ⟨j0, hj0, hjz, hjs, hjb⟩ := info_parts infoInt
  have P0 := Lib.hid (fun w hc => pickC base g 0 6 w hc (by omega) (by omega) (by omega))
  have P1 := Lib.hid (fun w k (hk : k ≤ 10) hc => anySeedC base g (1 + 4 * k) w hc (by omega))
  have CS := Lib.hid (fun w hc hb => sealedC base g 50 w hc (by omega) hb)
  unfold PickC at P0
  unfold NumC at P1
  clear hb hlt hbase
  go_enter Tryz.func18, Tryz.ntmps18
  go_upto_region 3 with fail
  rw [← hW0, ← hg]
  clear hW0 hg
  go_wp2_with fail
  refine (P0.out _ c0).mono ?_
  clear c0 P0
  rintro e0 w0 ⟨x0, rfl, l0, u0, cu0, g0⟩
  have K0 : Kp w w0 := k0.grown g0 (fun k e => by have := Option.some.inj e; omega)
  have z0 : base ≤ w0.heap.size := by rw [hsz]; exact g0.size
  clear k0 g0 hsz
  obtain ⟨N, rfl⟩ : ∃ N : Nat, x0 = N := ⟨x0.toNat, by omega⟩
  have hN5 : N ≤ 5 := by omega
  go_wp2_with fail
  go_loopw [5, 6] (fun v iv wr => ∃ (k : Nat) (l : List Int), k ≤ N ∧ iv = .int .i64 ((N : Int) - k) ∧ l.length = k ∧ Hid (OwnI wr base v l) ∧ Hid (Cu wr base g (1 + 4 * k)) ∧ Hid (Kp w wr) ∧ base ≤ wr.heap.size) (fun _ iv _ => (intOf iv).toNat)
  case atStart => exact ⟨0, [], by omega, by simp, rfl, Lib.hid (OwnI.nil _ _), Lib.hid (cu0.le (by omega)), Lib.hid K0, z0⟩
  case round =>
    clear cu0 K0 z0
    obtain ⟨k, l, hk, rfl, hl, hO, hC, hK, hz⟩ := hrel
    by_cases hlt : k < N
    · have hlt' : 0 < (N : Int) - k := by omega
      go_wp2_with fail
      refine (P1.out _ k (by omega) hC.out).mono ?_
      rintro e1 w1 ⟨z, rfl, cu1, g1⟩
      have HO1 := Lib.hid (hO.out.draw g1 hgb)
      have hz1 : base ≤ w1.heap.size := Nat.le_trans hz g1.size
      have K1 : Kp w w1 := hK.out.grown g1 (fun k e => by have := Option.some.inj e; omega)
      have HC1 := Lib.hid cu1
      clear cu1 g1 hO hC hK
      go_wp2_with (at_builtin; refine wpList_append_own_at _ rfl (.tmp 16) (.tmp 19) 43 rfl base 3 j0 (.int .i64 0) 1 8 Tryz.underlying43 hj0 hjz hjs hjb rfl (by decide) _ l.length (cellsI l) rfl (World.ownsRow.alloc HO1.out _) ⟨w1.heap.size, 0, none⟩ 1 1 [.int .i64 z] rfl rfl (one_cell _ _ _) (by simp [Value.oneCell']) (by simp only [maxLen]; omega) (by omega) (by simp; omega) ?_; intro v' w9 hown2 hgrow2 hnil2 hat2; clear hnil2)
      have O3 : Hid (OwnI w9 base v' (l ++ [z])) := Lib.hid (OwnI.snoc hown2)
      have C3 : Hid (Cu w9 base g (1 + 4 * (k + 1))) := Lib.hid (((HC1.out.own (World.grownBy_alloc _ _ none) (fun r e => by cases e)).own hgrow2 (fun r e => (World.ownsRow.lt HO1.out r e).1)).le (by omega))
      have K3 : Kp w w9 := (K1.alloc _).grown hgrow2 (fun r e => by have := (World.ownsRow.lt HO1.out r e).1; omega)
      have z3 : base ≤ w9.heap.size := Nat.le_trans (by simp; omega) hgrow2.size
      clear hown2 hgrow2 hat2 HO1 HC1 K1
      go_roundw
      case rel => exact ⟨k + 1, l ++ [z], by omega, by go_num, by simp [hl], O3, C3, Lib.hid K3, z3⟩
      case measure => simp [intOf]; omega
    · obtain rfl : k = N := by omega
      go_wp2_with fail
      refine (CS.out _ (hC.out.le (by omega)) hz).mono ?_
      rintro e2 w2 ⟨t, s, x, rfl, C2⟩
      have O2 := hO.out.draw C2.2 hgb
      have K2 : Kp w w2 := hK.out.grown C2.2 (fun k e => by have := Option.some.inj e; omega)
      have FT := fieldSl0 t s x w2
      clear C2 hO hC hK
      go_wp2_with fail
      exact bodyPost_ret (v := .tuple #[.int .i64 t, u5]) (by simp [results, Tryz.results18, go_sem, *]) rfl ⟨_, _, l, rfl, O2.rd, by omega, K2⟩

set_option maxRecDepth 100000 in
set_option maxHeartbeats 8000000 in
theorem drawFirstBadOpening_any (A : Option Addr) (n c : Nat) (w : World) (hb : RdBy w A n) (hn : n ≤ 9223372036854775807) :
    Calls Tryz.prog 11 #[.slice A n c] w fun e w' => ∃ (v u : Value) (l : List Sea) (m : List Opn), e = .returned (.tuple #[v, u]) ∧ RdSl w' v l ∧ RdOp w' u m ∧ l.length ≤ 7 ∧ m.length ≤ 7 ∧ (∀ y ∈ m, y.s.size ≤ 151) ∧ Kp w w' := by
  have hlt := hb.lt
  obtain ⟨g, hg⟩ : ∃ g, g = w.heap.size := ⟨_, rfl⟩
  obtain ⟨base, hbase⟩ : ∃ b, b = w.heap.size + 1 := ⟨_, rfl⟩
  obtain ⟨W0, hW0⟩ : ∃ W0, W0 = (w.alloc (.cells #[.slice A n c, .int .i64 0, .int .u64 0] 54)) := ⟨_, rfl⟩
  have k0 : Kp w W0 := by rw [hW0]; exact (Kp.refl w).alloc _
  have hsz : base = W0.heap.size := by rw [hW0, hbase]; simp
  have c0 : Cu W0 base g 0 := by
    refine ⟨A, n, c, 0, ?_, hb.keep k0, hn, by omega, by omega, fun h0 a ha => ⟨by have := hlt h0 a ha; omega, by have := hlt h0 a ha; omega⟩⟩
    rw [hg, hW0]
    exact ⟨0, by omega, by simp [go_sem], ⟨by simp [go_sem], by simp [go_sem]⟩, ⟨by simp [go_sem], by simp [go_sem]⟩⟩
  have hgw : w.heap.size ≤ g := by omega
  have hgb : g < base := by omega
  have hwb : w.heap.size ≤ base := by omega
  obtain ⟨i0, hi0, hiz, his, hib⟩ := info_parts infoSealed
  obtain ⟨j0, hj0, hjz, hjs, hjb⟩ := info_parts infoOpening
  have P0 := Lib.hid (fun w hc => pickC base g 0 5 w hc (by omega) (by omega) (by omega))
  have P1 := Lib.hid (fun w hc => pickC base g 1 20 w hc (by omega) (by omega) (by omega))
  have CS := Lib.hid (fun w k (hk : k ≤ 10) hc hb => sealedC base g (2 + 25 * k) w hc (by omega) hb)
  have CO := Lib.hid (fun w k (hk : k ≤ 10) hc hb => openingC base g (2 + 25 * k + 12) w hc (by omega) hb)
  have P2 := Lib.hid (fun w k (hk : k ≤ 10) hc => oneC base g (2 + 25 * k + 24) 4 w hc (by omega) (by omega) (by omega))
  have P3 := Lib.hid (fun w hc => oneC base g 200 16 w hc (by omega) (by omega) (by omega))
  have CP := Lib.hid (fun w hc hb => openingC base g 201 w hc (by omega) hb)
  have CE := Lib.hid (fun t s n x w (hx : x.size ≤ 151) => eSealW_any t s n x w (by omega))
  unfold PickC at P0 P1
  unfold OneC at P2 P3
  clear hb hlt hbase
  go_enter Tryz.func11, Tryz.ntmps11
  go_upto_region 4 with fail
  rw [← hW0, ← hg]
  clear hW0 hg
  go_wp2_with fail
  refine (P0.out _ c0).mono ?_
  clear c0 P0
  rintro e0 w0 ⟨x0, rfl, l0, u0, cu0, g0⟩
  have K0 : Kp w w0 := k0.grown g0 (fun k e => by have := Option.some.inj e; omega)
  have z0 : base ≤ w0.heap.size := by rw [hsz]; exact g0.size
  clear k0 g0 hsz
  go_wp2_with fail
  refine (P1.out _ cu0).mono ?_
  clear cu0 P1
  rintro e1 w1 ⟨x1, rfl, l1, u1, cu1, g1⟩
  have K1 : Kp w w1 := K0.grown g1 (fun k e => by have := Option.some.inj e; omega)
  have z1 : base ≤ w1.heap.size := Nat.le_trans z0 g1.size
  clear g1 K0 z0
  have hq : 0 ≤ x1.tdiv 19 ∧ x1.tdiv 19 ≤ 1 := by
    rw [Int.tdiv_eq_ediv_of_nonneg l1]
    omega
  have e0 : IntKind.i64.wrap (x1.tdiv 19) = x1.tdiv 19 := IntWalk.i64_in _ (by omega)
  obtain ⟨N, hN⟩ : ∃ N : Nat, (N : Int) = x0 + x1.tdiv 19 := ⟨(x0 + x1.tdiv 19).toNat, by omega⟩
  have hN5 : N ≤ 5 := by omega
  have e1 : IntKind.i64.wrap (x0 + x1.tdiv 19) = N := by rw [← hN]; exact IntWalk.i64_in _ (by omega)
  clear hN hq
  go_wp2_with fail
  go_loopw [5, 6, 7] (fun v u iv wr => ∃ (k : Nat) (l : List Sea) (m : List Opn), k ≤ N ∧ iv = .int .i64 ((N : Int) - k) ∧ l.length = k ∧ m.length = k ∧ Hid (∀ y ∈ m, y.s.size ≤ 151) ∧ Hid (TwR wr base v u l m) ∧ Hid (Cu wr base g (2 + 25 * k)) ∧ Hid (Kp w wr) ∧ base ≤ wr.heap.size) (fun _ _ iv _ => (intOf iv).toNat)
  case atStart => exact ⟨0, [], [], by omega, by simp, rfl, rfl, Lib.hid (fun y hy => by cases hy), Lib.hid (TwR.nil _ _), Lib.hid (cu1.le (by omega)), Lib.hid K1, z1⟩
  case round =>
    clear cu1 K1 z1
    obtain ⟨k, l, m, hk, rfl, hl, hm, hS, hT, hC, hK, hz⟩ := hrel
    by_cases hlt : k < N
    · have hlt' : 0 < (N : Int) - k := by omega
      go_wp2_with fail
      refine (CS.out _ k (by omega) hC.out hz).mono ?_
      rintro e2 w2 ⟨t, s, x, rfl, C2⟩
      have T2 := Lib.hid (hT.out.grown C2.2 hgb)
      have K2 : Kp w w2 := hK.out.grown C2.2 (fun k e => by have := Option.some.inj e; omega)
      have z2 : base ≤ w2.heap.size := Nat.le_trans hz C2.2.size
      have D2 := Lib.hid C2.1
      clear C2 hT hK hC
      go_wp2_with fail
      refine (CO.out _ k (by omega) D2.out z2).mono ?_
      rintro e3 w3 ⟨n', x', rfl, hx', C3⟩
      have T3 := Lib.hid (T2.out.grown C3.2 hgb)
      have K3 : Kp w w3 := K2.grown C3.2 (fun k e => by have := Option.some.inj e; omega)
      have z3 : base ≤ w3.heap.size := Nat.le_trans z2 C3.2.size
      have D3 := Lib.hid C3.1
      clear C3 T2 K2 D2 CS CO
      have hv : u5.ownBlock ≠ some w3.heap.size := fun e => by have := (World.ownsRow.lt T3.out.1 _ e).2; omega
      have hu : u6.ownBlock ≠ some w3.heap.size := fun e => by have := (World.ownsRow.lt T3.out.2.1 _ e).2; omega
      have hv2 : u5.ownBlock ≠ some (w3.heap.size + 1) := fun e => by have := (World.ownsRow.lt T3.out.1 _ e).2; omega
      have kz : Kp w3 ((w3.alloc (.cells #[.int .i64 t, .int .i64 s, .int .i64 x] 29)).alloc (.cells #[.int .i64 n', .string x'] 25)) := ((Kp.refl w3).alloc _).alloc _
      have B4 : Bx3 ((w3.alloc (.cells #[.int .i64 t, .int .i64 s, .int .i64 x] 29)).alloc (.cells #[.int .i64 n', .string x'] 25)) w3.heap.size t s x := (Bx3.new w3 t s x 29).keep ((Kp.refl _).alloc _)
      have E4 : Bxo ((w3.alloc (.cells #[.int .i64 t, .int .i64 s, .int .i64 x] 29)).alloc (.cells #[.int .i64 n', .string x'] 25)) (w3.heap.size + 1) n' x' := by
        have := Bxo.new (w3.alloc (.cells #[.int .i64 t, .int .i64 s, .int .i64 x] 29)) n' x' 25
        simpa using this
      have T4 := Lib.hid (T3.out.keep kz)
      have K4 := K3.trans kz
      have D4 := D3.out.keep kz
      have z4 : base ≤ ((w3.alloc (.cells #[.int .i64 t, .int .i64 s, .int .i64 x] 29)).alloc (.cells #[.int .i64 n', .string x'] 25)).heap.size := by simp; omega
      have hM : w3.heap.size ≠ g := by omega
      have hM1 : w3.heap.size + 1 ≠ g := by omega
      have hMw : w.heap.size ≤ w3.heap.size := by omega
      go_upto_region 8 with fail
      obtain ⟨M, hMe⟩ : ∃ M, M = w3.heap.size := ⟨_, rfl⟩
      rw [← hMe] at hv hu hv2 B4 E4 hM hM1 hMw z3 ⊢
      generalize (w3.alloc (.cells #[.int .i64 t, .int .i64 s, .int .i64 x] 29)).alloc (.cells #[.int .i64 n', .string x'] 25) = w4 at *
      clear kz T3 K3 D3 hMe w3
      go_wp2_with fail
      refine (P2.out _ k (by omega) (D4.le (by omega))).mono ?_
      rintro e5 w5 ⟨b, rfl, cu5, g5⟩
      have B5 := B4.draw g5 hM
      have E5 := E4.draw g5 hM1
      have T5 := Lib.hid (T4.out.grown g5 hgb)
      have K5 : Kp w w5 := K4.grown g5 (fun k e => by have := Option.some.inj e; omega)
      have z5 : base ≤ w5.heap.size := Nat.le_trans z4 g5.size
      have D5 := Lib.hid cu5
      clear B4 E4 T4 K4 z4 D4 cu5 g5 P2
      cases b
      · obtain ⟨⟨b0, b1, b2⟩, h0, h1, h2⟩ := id B5
        obtain ⟨⟨o0, o1⟩, p0, p1⟩ := id E5
        go_wp2_with fail
        refine (CE.out t s n' x' _ hx').mono ?_
        rintro e6 w6 ⟨rfl, k6⟩
        have B6 := B5.keep k6
        have E6 := ((E5.keep k6).far (q := M) (j := 0) (by omega) (.int .i64 t)).far (q := M) (j := 1) (by omega) (.int .i64 s) |>.far (q := M) (j := 2) (by omega) (.int .i64 (selN t s n' x'))
        have T6 := Lib.hid ((((T5.out.keep k6).set M 0 (.int .i64 t) hv hu).set M 1 (.int .i64 s) hv hu).set M 2 (.int .i64 (selN t s n' x')) hv hu)
        have K6 := (((K5.trans k6).setCell (p := ⟨M, 0, none⟩) hMw (.int .i64 t)).setCell (p := ⟨M, 1, none⟩) hMw (.int .i64 s)).setCell (p := ⟨M, 2, none⟩) hMw (.int .i64 (selN t s n' x'))
        have D6 := Lib.hid ((((D5.out.keep k6).own (grown_set _ M 0 (.int .i64 t)) (fun r e => by have := Option.some.inj e; omega)).own (grown_set _ M 1 (.int .i64 s)) (fun r e => by have := Option.some.inj e; omega)).own (grown_set _ M 2 (.int .i64 (selN t s n' x'))) (fun r e => by have := Option.some.inj e; omega))
        have z6 : base ≤ w6.heap.size := Nat.le_trans z5 k6.size
        have BB := B6.put t s (selN t s n' x')
        clear b0 b1 b2 h0 h1 h2 o0 o1 p0 p1
        obtain ⟨⟨b0, b1, b2⟩, h0, h1, h2⟩ := id B6
        go_upto_region 10 with fail
        have z7 : base ≤ (((w6.setCell ⟨M, 0, none⟩ (.int .i64 t)).setCell ⟨M, 1, none⟩ (.int .i64 s)).setCell ⟨M, 2, none⟩ (.int .i64 (selN t s n' x'))).heap.size := by simpa using z6
        generalize ((w6.setCell ⟨M, 0, none⟩ (.int .i64 t)).setCell ⟨M, 1, none⟩ (.int .i64 s)).setCell ⟨M, 2, none⟩ (.int .i64 (selN t s n' x')) = w7 at *
        generalize selN t s n' x' = y at *
        clear B6 b0 b1 b2 h0 h1 h2 B5 E5 T5 K5 D5 z5 z6 k6 w6
        obtain ⟨⟨b0, b1, b2⟩, h0, h1, h2⟩ := BB
        obtain ⟨⟨o0, o1⟩, p0, p1⟩ := id E6
        go_upto_region 11 with (at_builtin; refine wpList_append_own_at _ rfl (.tmp 36) (.tmp 38) 37 rfl base 29 i0 (slx 0 0 0) 3 24 Tryz.underlying37 hi0 hiz his hib rfl (by decide) _ l.length (cellsSl l) rfl (World.ownsRow.alloc T6.out.1 _) ⟨w7.heap.size, 0, none⟩ 1 1 [.int .i64 t, .int .i64 s, .int .i64 y] rfl rfl (three_new _ _ _ _ _) (by simp [Value.oneCell']) (by simp only [maxLen]; omega) (by omega) (by simp; omega) ?_; intro v' w9 hown2 hgrow2 hnil2 hat2; clear hnil2)
        have T8 := Lib.hid ((T6.out.keep ((Kp.refl _).alloc _)).app1 hown2 hgrow2 hat2)
        have E8 := (E6.keep ((Kp.refl _).alloc _)).row hgrow2 (fun e => hv2 e.symm)
        have K8 := (K6.alloc _).grown hgrow2 (fun r e => by have := (World.ownsRow.lt T6.out.1 r e).1; omega)
        have D8 := Lib.hid ((D6.out.own (World.grownBy_alloc _ _ none) (fun r e => by cases e)).own hgrow2 (fun r e => (World.ownsRow.lt T6.out.1 r e).1))
        have z8 : base ≤ w9.heap.size := Nat.le_trans (by simp; omega) hgrow2.size
        clear hown2 hgrow2 hat2 b0 b1 b2 h0 h1 h2 o0 o1 p0 p1 E6 T6 K6 D6 z7
        obtain ⟨⟨o0, o1⟩, p0, p1⟩ := E8
        go_wp2_with (at_builtin; refine wpList_append_own_at _ rfl (.tmp 40) (.tmp 42) 38 rfl base 25 j0 (opx 0 ByteArray.empty) 2 24 Tryz.underlying38 hj0 hjz hjs hjb rfl (by decide) _ m.length (cellsOp m) rfl (World.ownsRow.alloc T8.out.2.1 _) ⟨w9.heap.size, 0, none⟩ 1 1 [.int .i64 n', .string x'] rfl rfl (two_new _ _ _ _) (by simp [Value.oneCell']) (by simp only [maxLen]; omega) (by omega) (by simp; omega) ?_; intro u' w10 hown2 hgrow2 hnil2 hat2; clear hnil2)
        have T9 := Lib.hid ((T8.out.keep ((Kp.refl _).alloc _)).app2 hown2 hgrow2 hat2)
        have K9 := Lib.hid ((K8.alloc _).grown hgrow2 (fun r e => by have := (World.ownsRow.lt T8.out.2.1 r e).1; omega))
        have D9 := Lib.hid (((D8.out.own (World.grownBy_alloc _ _ none) (fun r e => by cases e)).own hgrow2 (fun r e => (World.ownsRow.lt T8.out.2.1 r e).1)).le (show 2 + 25 * k + 24 + 1 ≤ 2 + 25 * (k + 1) by omega))
        have z9 : base ≤ w10.heap.size := Nat.le_trans (by simp; omega) hgrow2.size
        clear hown2 hgrow2 hat2 o0 o1 p0 p1 T8 K8 D8 z8
        go_roundw
        case rel => exact ⟨k + 1, l ++ [⟨t, s, y⟩], m ++ [⟨n', x'⟩], by omega, by go_num, by simp [hl], by simp [hm], Lib.hid (fun q hq => by
          rcases List.mem_append.1 hq with a | a
          · exact hS.out q a
          · rw [List.mem_singleton.1 a]; exact hx'), T9, D9, K9, z9⟩
        case measure => simp [intOf]; omega
      · obtain ⟨⟨b0, b1, b2⟩, h0, h1, h2⟩ := B5
        obtain ⟨⟨o0, o1⟩, p0, p1⟩ := id E5
        go_upto_region 11 with (at_builtin; refine wpList_append_own_at _ rfl (.tmp 36) (.tmp 38) 37 rfl base 29 i0 (slx 0 0 0) 3 24 Tryz.underlying37 hi0 hiz his hib rfl (by decide) _ l.length (cellsSl l) rfl (World.ownsRow.alloc T5.out.1 _) ⟨w5.heap.size, 0, none⟩ 1 1 [.int .i64 t, .int .i64 s, .int .i64 x] rfl rfl (three_new _ _ _ _ _) (by simp [Value.oneCell']) (by simp only [maxLen]; omega) (by omega) (by simp; omega) ?_; intro v' w9 hown2 hgrow2 hnil2 hat2; clear hnil2)
        have T8 := Lib.hid ((T5.out.keep ((Kp.refl _).alloc _)).app1 hown2 hgrow2 hat2)
        have E8 := (E5.keep ((Kp.refl _).alloc _)).row hgrow2 (fun e => hv2 e.symm)
        have K8 := (K5.alloc _).grown hgrow2 (fun r e => by have := (World.ownsRow.lt T5.out.1 r e).1; omega)
        have D8 := Lib.hid ((D5.out.own (World.grownBy_alloc _ _ none) (fun r e => by cases e)).own hgrow2 (fun r e => (World.ownsRow.lt T5.out.1 r e).1))
        have z8 : base ≤ w9.heap.size := Nat.le_trans (by simp; omega) hgrow2.size
        clear hown2 hgrow2 hat2 b0 b1 b2 h0 h1 h2 o0 o1 p0 p1 E5 T5 K5 D5 z5
        obtain ⟨⟨o0, o1⟩, p0, p1⟩ := E8
        go_wp2_with (at_builtin; refine wpList_append_own_at _ rfl (.tmp 40) (.tmp 42) 38 rfl base 25 j0 (opx 0 ByteArray.empty) 2 24 Tryz.underlying38 hj0 hjz hjs hjb rfl (by decide) _ m.length (cellsOp m) rfl (World.ownsRow.alloc T8.out.2.1 _) ⟨w9.heap.size, 0, none⟩ 1 1 [.int .i64 n', .string x'] rfl rfl (two_new _ _ _ _) (by simp [Value.oneCell']) (by simp only [maxLen]; omega) (by omega) (by simp; omega) ?_; intro u' w10 hown2 hgrow2 hnil2 hat2; clear hnil2)
        have T9 := Lib.hid ((T8.out.keep ((Kp.refl _).alloc _)).app2 hown2 hgrow2 hat2)
        have K9 := Lib.hid ((K8.alloc _).grown hgrow2 (fun r e => by have := (World.ownsRow.lt T8.out.2.1 r e).1; omega))
        have D9 := Lib.hid (((D8.out.own (World.grownBy_alloc _ _ none) (fun r e => by cases e)).own hgrow2 (fun r e => (World.ownsRow.lt T8.out.2.1 r e).1)).le (show 2 + 25 * k + 24 + 1 ≤ 2 + 25 * (k + 1) by omega))
        have z9 : base ≤ w10.heap.size := Nat.le_trans (by simp; omega) hgrow2.size
        clear hown2 hgrow2 hat2 o0 o1 p0 p1 T8 K8 D8 z8
        go_roundw
        case rel => exact ⟨k + 1, l ++ [⟨t, s, x⟩], m ++ [⟨n', x'⟩], by omega, by go_num, by simp [hl], by simp [hm], Lib.hid (fun q hq => by
          rcases List.mem_append.1 hq with a | a
          · exact hS.out q a
          · rw [List.mem_singleton.1 a]; exact hx'), T9, D9, K9, z9⟩
        case measure => simp [intOf]; omega
    · obtain rfl : k = N := by omega
      go_wp2_with fail
      refine (P3.out _ (hC.out.le (by omega))).mono ?_
      rintro e2 w2 ⟨b, rfl, cu2, g2⟩
      have T2 := hT.out.grown g2 hgb
      have K2 : Kp w w2 := hK.out.grown g2 (fun k e => by have := Option.some.inj e; omega)
      have z2 : base ≤ w2.heap.size := Nat.le_trans hz g2.size
      clear hT hC hK
      cases b
      · go_wp2_with fail
        exact bodyPost_ret (v := .tuple #[u5, u6]) (by simp [results, Tryz.results11, go_sem, *]) rfl ⟨_, _, l, m, rfl, T2.1.rd, T2.2.1.rd, by omega, by omega, hS.out, K2⟩
      · go_wp2_with fail
        refine (CP.out _ cu2 z2).mono ?_
        rintro e3 w3 ⟨n', x', rfl, hx', C3⟩
        have T3 := T2.grown C3.2 hgb
        have K3 : Kp w w3 := K2.grown C3.2 (fun k e => by have := Option.some.inj e; omega)
        have z3 : base ≤ w3.heap.size := Nat.le_trans z2 C3.2.size
        clear C3 T2 K2
        go_wp2_with (at_builtin; refine wpList_append_own_at _ rfl (.tmp 46) (.tmp 49) 38 rfl base 25 j0 (opx 0 ByteArray.empty) 2 24 Tryz.underlying38 hj0 hjz hjs hjb rfl (by decide) _ m.length (cellsOp m) rfl (World.ownsRow.alloc T3.2.1 _) ⟨w3.heap.size, 0, none⟩ 1 1 [.int .i64 n', .string x'] rfl rfl (two_new _ _ _ _) (by simp [Value.oneCell']) (by simp only [maxLen]; omega) (by omega) (by simp; omega) ?_; intro v' w9 hown2 hgrow2 hnil2 hat2; clear hnil2)
        have T4 := (T3.keep ((Kp.refl _).alloc _)).app2 hown2 hgrow2 hat2
        have K4 := (K3.alloc _).grown hgrow2 (fun r e => by have := (World.ownsRow.lt T3.2.1 r e).1; omega)
        clear hown2 hgrow2 hat2
        go_wp2_with fail
        exact bodyPost_ret (v := .tuple #[u5, v']) (by simp [results, Tryz.results11, go_sem, *]) rfl ⟨_, _, l, m ++ [⟨n', x'⟩], rfl, T4.1.rd, T4.2.1.rd, by omega, by simp; omega, fun y hy => by
          rcases List.mem_append.1 hy with a | a
          · exact hS.out y a
          · rw [List.mem_singleton.1 a]; exact hx', K4⟩

end Go.Proofs.YtbohefollbmhkaaGreatDoor
