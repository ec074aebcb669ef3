/-
  The mirrored index, the program's and the reference's: what a plain function says. Nothing that was there is changed.
-/
import Derived.Test.YtcdfbcmfpeceeaaDoorMirM
import Derived.Test.YtcdfbcmfpeceeaaDoorMapS
namespace Go.Proofs.YtcdfbcmfpeceeaaDoor
open Go.RowKit

theorem mir_bd {W H i : Int} (a : 1 ≤ W) (b : W ≤ 10) (c : 1 ≤ H) (e : H ≤ 10) (h0 : 0 ≤ i) (h1 : i < W * H) : (0 ≤ i % W * H ∧ i % W * H ≤ 2000) ∧ 0 ≤ mirI W H i ∧ mirI W H i < W * H := by
  have hb := hex_bd a b h0 h1
  have m := mul_bd c e (r := i % W) (by omega) (by omega)
  have p : 0 ≤ i % W * H := Int.mul_nonneg hb.1 (by omega)
  have := idx_bd (W := H) (H := W) (q := i / W) (r := i % W) (inM_mk hb.2.2.1 hb.2.2.2 hb.1 hb.2.1)
  unfold idxM at this
  rw [Int.mul_comm H W] at this
  unfold mirI
  exact ⟨⟨p, m.2⟩, this.1, this.2⟩

theorem mirrorIndex_any (W H : Int) (t r d : Value) (i : Int) (w : World) (a : 1 ≤ W) (b : W ≤ 10) (c : 1 ≤ H) (e : H ≤ 10) (h0 : 0 ≤ i) (h1 : i < W * H) :
    Calls Tryd.prog 76 #[mp W H t r d, .int .i64 i] w fun e w' => e = .returned (.int .i64 (mirI W H i)) ∧ Kp w w' := by
  have hA := area_bd a b c e
  have hb := hex_bd a b h0 h1
  have hm := mir_bd a b c e h0 h1
  unfold mirI at hm ⊢
  have s0 := new5 w (.int .i64 W) (.int .i64 H) t r d 44
  go_enter Tryd.func76, Tryd.ntmps76
  go_wp2_with fail
  refine (hexWithIndex_any _ _ _ _ _ _ _ a b h0 (by omega)).mono ?_
  rintro e1 w1 ⟨rfl, k1⟩
  have s1 := keep5 (k1.trans ((Kp.refl w1).alloc (.cells #[.int .i64 (i % W), .int .i64 (i / W)] 118))) s0
  clear s0 k1
  go_wp2_with fail
  go_ret
  exact ⟨rfl, s1.2.2.2.2.2⟩

theorem mMirrorIndex_any (W H : Int) (t r d : Value) (i : Int) (w : World) (a : 1 ≤ W) (b : W ≤ 10) (c : 1 ≤ H) (e : H ≤ 10) (h0 : 0 ≤ i) (h1 : i < W * H) :
    Calls Tryd.prog 109 #[mp W H t r d, .int .i64 i] w fun e w' => e = .returned (.int .i64 (mirI W H i)) ∧ Kp w w' := by
  have hA := area_bd a b c e
  have hb := hex_bd a b h0 h1
  have hm := mir_bd a b c e h0 h1
  unfold mirI at hm ⊢
  have s0 := new5 w (.int .i64 W) (.int .i64 H) t r d 44
  go_enter Tryd.func109, Tryd.ntmps109
  go_wp2_with fail
  refine (mHex_any _ _ _ _ _ _ _ a b h0 (by omega)).mono ?_
  rintro e1 w1 ⟨rfl, k1⟩
  have s1 := keep5 (k1.trans ((Kp.refl w1).alloc (.cells #[.int .i64 (i % W), .int .i64 (i / W)] 118))) s0
  clear s0 k1
  go_wp2_with fail
  go_ret
  exact ⟨rfl, s1.2.2.2.2.2⟩

end Go.Proofs.YtcdfbcmfpeceeaaDoor
