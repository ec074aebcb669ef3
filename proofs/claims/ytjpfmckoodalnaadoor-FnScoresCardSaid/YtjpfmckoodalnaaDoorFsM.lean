/-
  A monotone table's mean scores do not fall from a column to the next; a table's results and their scores are within bounds. No program is looked into.
-/
import Derived.Test.YtjpfmckoodalnaaDoorTbT
import Derived.Test.YtjpfmckoodalnaaDoorTbN
namespace Go.Proofs.YtjpfmckoodalnaaDoor
open Go.RowKit

theorem getD_cnt (f : Int → Int) (P : List (Int × Int)) {q : Nat} (h : q < 8) : (cntW f P).getD q 0 = cntR f P q := by simp [List.getD, cntW_at h]
theorem sumS_cnt (f : Int → Int) (P : List (Int × Int)) : sumS (cntW f P) 8 = cntR f P 1 + 2 * cntR f P 2 + 3 * cntR f P 3 - cntR f P 4 - 2 * cntR f P 5 - 3 * cntR f P 6 := by
  have h0 : (cntW f P).getD 0 0 = cntR f P 0 := getD_cnt f P (q := 0) (by omega)
  have h1 : (cntW f P).getD 1 0 = cntR f P 1 := getD_cnt f P (q := 1) (by omega)
  have h2 : (cntW f P).getD 2 0 = cntR f P 2 := getD_cnt f P (q := 2) (by omega)
  have h3 : (cntW f P).getD 3 0 = cntR f P 3 := getD_cnt f P (q := 3) (by omega)
  have h4 : (cntW f P).getD 4 0 = cntR f P 4 := getD_cnt f P (q := 4) (by omega)
  have h5 : (cntW f P).getD 5 0 = cntR f P 5 := getD_cnt f P (q := 5) (by omega)
  have h6 : (cntW f P).getD 6 0 = cntR f P 6 := getD_cnt f P (q := 6) (by omega)
  have h7 : (cntW f P).getD 7 0 = cntR f P 7 := getD_cnt f P (q := 7) (by omega)
  have s0 : scoI ((0 : Nat) : Int) = 0 := by decide
  have s1 : scoI ((1 : Nat) : Int) = 1 := by decide
  have s2 : scoI ((2 : Nat) : Int) = 2 := by decide
  have s3 : scoI ((3 : Nat) : Int) = 3 := by decide
  have s4 : scoI ((4 : Nat) : Int) = -1 := by decide
  have s5 : scoI ((5 : Nat) : Int) = -2 := by decide
  have s6 : scoI ((6 : Nat) : Int) = -3 := by decide
  have s7 : scoI ((7 : Nat) : Int) = 0 := by decide
  simp only [sumS, h0, h1, h2, h3, h4, h5, h6, h7, s0, s1, s2, s3, s4, s5, s6, s7]
  omega
theorem cntR_cons (f : Int → Int) (p : Int × Int) (P : List (Int × Int)) (r : Int) : cntR f (p :: P) r = p.2 * ind f r p.1 + cntR f P r := by simp [cntR]
theorem mean_cons {f : Int → Int} (p : Int × Int) (P : List (Int × Int)) (h0 : 0 ≤ f p.1) (h1 : f p.1 ≤ 7) : sumS (cntW f (p :: P)) 8 = p.2 * scoI (f p.1) + sumS (cntW f P) 8 := by
  rw [sumS_cnt, sumS_cnt]
  simp only [cntR_cons]
  have hc : f p.1 = 0 ∨ f p.1 = 1 ∨ f p.1 = 2 ∨ f p.1 = 3 ∨ f p.1 = 4 ∨ f p.1 = 5 ∨ f p.1 = 6 ∨ f p.1 = 7 := by omega
  rcases hc with h | h | h | h | h | h | h | h <;> simp [ind, h, scoI] <;> omega
theorem mean_le {f g : Int → Int} : ∀ {P : List (Int × Int)}, (∀ p ∈ P, 0 ≤ p.2 ∧ (0 ≤ f p.1 ∧ f p.1 ≤ 7) ∧ (0 ≤ g p.1 ∧ g p.1 ≤ 7) ∧ scoI (f p.1) ≤ scoI (g p.1)) → sumS (cntW f P) 8 ≤ sumS (cntW g P) 8
  | [], _ => by simp [sumS_cnt, cntR]
  | p :: P, h => by
    obtain ⟨a, b, c, d⟩ := h p List.mem_cons_self
    have ih := mean_le (f := f) (g := g) (P := P) fun q hq => h q (List.mem_cons_of_mem _ hq)
    have hm := Int.mul_le_mul_of_nonneg_left d a
    rw [mean_cons p P b.1 b.2, mean_cons p P c.1 c.2]
    omega
theorem res_at {d : Int} {rs : List (List Int)} {co : List (Int × Int)} (hok : tabOk co d rs = true) {s c : Int} (_h0 : d ≤ s) (h1 : s ≤ 6 * d) (hc : 0 ≤ c ∧ c < co.length) : 0 ≤ resI d rs s c ∧ resI d rs s c ≤ 7 := by
  have hd := tabOk_d hok
  have hr := (tabOk_parts hok).2.2.1
  obtain ⟨l, hl⟩ : ∃ l, rs[(s - d).toNat]? = some l := ⟨rs[(s - d).toNat]'(by omega), List.getElem?_eq_getElem _⟩
  obtain ⟨e, hb⟩ := tabOk_row hok hl
  obtain ⟨x, hx⟩ : ∃ x, l[c.toNat]? = some x := ⟨l[c.toNat]'(by omega), List.getElem?_eq_getElem _⟩
  have e1 : rs.getD (s - d).toNat [] = l := by simp [List.getD, hl]
  have e2 : l.getD c.toNat 0 = x := by simp [List.getD, hx]
  unfold resI
  rw [e1, e2]
  exact hb _ x hx
theorem mon_mean {d : Int} {rs : List (List Int)} {co : List (Int × Int)} (hok : tabOk co d rs = true) (hm : monB rs rs.length co.length = true) {k : Nat} (hk : k + 1 < co.length) :
    sumS (cntW (fun s => resI d rs s (k : Int)) (pS d.toNat)) 8 ≤ sumS (cntW (fun s => resI d rs s ((k : Int) + 1)) (pS d.toNat)) 8 := by
  have hd := tabOk_d hok
  have hr := (tabOk_parts hok).2.2.1
  refine mean_le fun p hp => ?_
  have hw := pS_bd (D := d.toNat) (by omega) (by omega) p hp
  obtain ⟨q, hq, rfl⟩ := List.mem_iff_getElem.1 hp
  rw [pS_len] at hq
  have e := pS_at hq
  rw [List.getElem?_eq_getElem (by rw [pS_len]; exact hq)] at e
  rw [Option.some.inj e] at hw ⊢
  simp only at hw ⊢
  have h1 : d ≤ ((d.toNat : Nat) : Int) + (q : Int) := by omega
  have h2 : ((d.toNat : Nat) : Int) + (q : Int) ≤ 6 * d := by omega
  refine ⟨hw.1, res_at hok h1 h2 (by omega), res_at hok h1 h2 (by omega), ?_⟩
  have hi : q < rs.length := by omega
  have m1 := allN_at (allN_at hm hi) hk
  simp only [monF, Bool.and_eq_true, Bool.or_eq_true, decide_eq_true_eq] at m1
  have m2 := m1.1
  have et : (((d.toNat : Nat) : Int) + (q : Int) - d).toNat = q := by omega
  have ek : ((k : Int) + 1).toNat = k + 1 := by omega
  unfold resI
  rw [et, ek, Int.toNat_natCast]
  rcases m2 with m2 | m2
  · omega
  · exact m2
theorem sco_bd {x : Int} (h0 : 0 ≤ x) (h1 : x ≤ 7) : -3 ≤ scoI x ∧ scoI x ≤ 3 := by
  unfold scoI
  split
  · omega
  · split <;> omega

end Go.Proofs.YtjpfmckoodalnaaDoor
