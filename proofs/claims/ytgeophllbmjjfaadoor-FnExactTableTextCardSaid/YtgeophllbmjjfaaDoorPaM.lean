/-
  Words and numbers read from texts, plainly: splitting at a byte, decimal digits read back by both sides' ways of reading.
-/
import Derived.Test.YtgeophllbmjjfaaDoorInts
import Derived.Lib.AtoiAllCases
import Derived.Lib.Join
import Derived.Lib.ItoaNum
namespace Go.Proofs.YtgeophllbmjjfaaDoor
open Go.RowKit

theorem u8_dig (k : Nat) (h : k < 10) : (UInt8.ofNat (48 + k)).toNat = 48 + k := by
  simp
  omega
theorem dec_small {n : Nat} (h : n < 10) : Lib.decDigits n = [UInt8.ofNat (48 + n)] := by rw [Lib.decDigits, dif_pos h]
theorem dec_big {n : Nat} (h : ¬ n < 10) : Lib.decDigits n = Lib.decDigits (n / 10) ++ [UInt8.ofNat (48 + n % 10)] := by rw [Lib.decDigits, dif_neg h]
theorem dec_dgt (n : Nat) : ∀ c ∈ Lib.decDigits n, 48 ≤ c.toNat ∧ c.toNat ≤ 57 := by
  induction n using Nat.strongRecOn with
  | _ n ih =>
    intro c hc
    by_cases h : n < 10
    · rw [dec_small h] at hc
      simp only [List.mem_cons, List.not_mem_nil, or_false] at hc
      rw [hc, u8_dig n h]
      omega
    · rw [dec_big h] at hc
      rcases List.mem_append.1 hc with hc | hc
      · exact ih (n / 10) (by omega) c hc
      · simp only [List.mem_cons, List.not_mem_nil, or_false] at hc
        rw [hc, u8_dig (n % 10) (by omega)]
        omega
theorem dec_no (n : Nat) (c : UInt8) (h : c.toNat < 48) : c ∉ Lib.decDigits n := fun hc => by
  have := (dec_dgt n c hc).1
  omega
theorem dec_ne (n : Nat) : Lib.decDigits n ≠ [] := by
  by_cases h : n < 10
  · rw [dec_small h]; simp
  · rw [dec_big h]; simp
theorem dec_le19 : ∀ (k n : Nat), n < 10 ^ (k + 1) → (Lib.decDigits n).length ≤ k + 1
  | 0, n, h => by rw [dec_small (by simpa using h)]; simp
  | k + 1, n, h => by
    by_cases h0 : n < 10
    · rw [dec_small h0]; simp
    · rw [dec_big h0, List.length_append]
      have h1 : n / 10 < 10 ^ (k + 1) := by
        rw [Nat.pow_succ] at h
        exact Nat.div_lt_of_lt_mul (by rw [Nat.mul_comm]; exact h)
      have := dec_le19 k (n / 10) h1
      simp
      exact this

/-! The program's way: strconv.Atoi. -/
theorem pu_app : ∀ (l : List UInt8) (acc : Nat) (c : UInt8) (u : Nat), Lib.parseUint10 acc l = .ok u → Lib.parseUint10 acc (l ++ [c]) = Lib.parseUint10 u [c]
  | [], acc, c, u, h => by
    simp only [Lib.parseUint10] at h
    injection h with h
    rw [h]
    rfl
  | b :: r, acc, c, u, h => by
    simp only [Lib.parseUint10, List.cons_append] at h ⊢
    split at h
    · rename_i hd
      rw [if_pos hd]
      split at h
      · cases h
      · rename_i ho
        rw [if_neg ho]
        split at h
        · cases h
        · rename_i hp
          rw [if_neg hp, pu_app r _ c u h]
          simp only [Lib.parseUint10]
    · cases h
theorem pu_one {u k : Nat} (hu : u < 922337203685477581) (hk : k < 10) : Lib.parseUint10 u [UInt8.ofNat (48 + k)] = .ok (u * 10 + k) := by
  have e := u8_dig k hk
  simp only [Lib.parseUint10, e]
  rw [if_pos (by omega), if_neg (by omega), if_neg (by omega), show 48 + k - 48 = k by omega]
theorem pu_dec (n : Nat) (hn : n < 9223372036854775808) : Lib.parseUint10 0 (Lib.decDigits n) = .ok n := by
  induction n using Nat.strongRecOn with
  | _ n ih =>
    by_cases h : n < 10
    · rw [dec_small h, pu_one (by omega) h]
      simp
    · rw [dec_big h, pu_app _ _ _ _ (ih (n / 10) (by omega) (by omega)), pu_one (by omega) (by omega)]
      congr 1
      omega
theorem atoi_dec (n : Nat) (hn : n < 9223372036854775808) : Lib.atoiAll (Lib.decDigits n) = .ok (n : Int) := by
  obtain ⟨c, r, e⟩ : ∃ c r, Lib.decDigits n = c :: r := List.exists_cons_of_ne_nil (dec_ne n)
  have hc := dec_dgt n c (by rw [e]; simp)
  rw [e, Lib.atoiAll_plain c r (by omega) (by omega), Lib.parseMag, if_neg (by simp), ← e, pu_dec n hn, Lib.signless, if_neg (by omega)]

/-! The reference's two ways. -/
def edS (a : Int) (c : UInt8) : Int := IntKind.i64.wrap (IntKind.i64.wrap (IntKind.i64.wrap (10 * a) + (c.toNat : Int)) - 48)
def edv (l : List UInt8) : Int := (l.take 19).foldl edS 0
theorem edS_dec {a : Int} {k : Nat} (h0 : 0 ≤ a) (h1 : a ≤ 900000000000000000) (hk : k < 10) : edS a (UInt8.ofNat (48 + k)) = 10 * a + k := by
  rw [edS, u8_dig k hk, IntWalk.i64_in (10 * a) (by omega), IntWalk.i64_in (10 * a + _) (by omega), IntWalk.i64_in _ (by omega)]
  omega
theorem ed_dec (n : Nat) (hn : n ≤ 9000000000000000000) : (Lib.decDigits n).foldl edS 0 = n := by
  induction n using Nat.strongRecOn with
  | _ n ih =>
    by_cases h : n < 10
    · rw [dec_small h, List.foldl_cons, List.foldl_nil, edS_dec (by omega) (by omega) h]
      omega
    · rw [dec_big h, List.foldl_append, ih (n / 10) (by omega) (by omega), List.foldl_cons, List.foldl_nil, edS_dec (by omega) (by omega) (by omega)]
      omega
theorem edv_dec (n : Nat) (hn : n ≤ 9000000000000000000) : edv (Lib.decDigits n) = n := by
  rw [edv, List.take_of_length_le (dec_le19 18 n (by omega)), ed_dec n hn]
def isDg (c : UInt8) : Bool := decide (48 ≤ c.toNat) && decide (c.toNat ≤ 57)
def dvS (a : Int) (c : UInt8) : Int := 10 * a + ((c.toNat : Int) - 48)
def rdOk (l : List UInt8) : Bool := decide (1 ≤ l.length) && (decide (l.length ≤ 6) && !(decide (l.head? = some 48) && decide (1 < l.length)))
def rdP (l : List UInt8) : Int := if rdOk l = true ∧ l.all isDg = true then l.foldl dvS 0 else -1
theorem dvS_dec {a : Int} {k : Nat} (hk : k < 10) : dvS a (UInt8.ofNat (48 + k)) = 10 * a + k := by
  rw [dvS, u8_dig k hk]
  omega
theorem rdP_dec (n : Nat) (hn : n < 100) : rdP (Lib.decDigits n) = n := by
  have hall : (Lib.decDigits n).all isDg = true := by
    rw [List.all_eq_true]
    intro c hc
    have := dec_dgt n c hc
    simp [isDg]
    omega
  by_cases h : n < 10
  · have h1 : rdOk (Lib.decDigits n) = true := by rw [dec_small h]; simp [rdOk]
    rw [rdP, if_pos ⟨h1, hall⟩, dec_small h, List.foldl_cons, List.foldl_nil, dvS_dec h]
    omega
  · have h2 : n / 10 < 10 := by omega
    have h1 : rdOk (Lib.decDigits n) = true := by
      rw [dec_big h, dec_small h2]
      have : UInt8.ofNat (48 + n / 10) ≠ 48 := fun e => by
        have e2 := u8_dig (n / 10) h2
        rw [e] at e2
        have : (48 : UInt8).toNat = 48 := rfl
        omega
      have hd : decide (([UInt8.ofNat (48 + n / 10)] ++ [UInt8.ofNat (48 + n % 10)] : List UInt8).head? = some 48) = false := decide_eq_false (fun e => this (Option.some.inj e))
      rw [rdOk, hd]
      rfl
    rw [rdP, if_pos ⟨h1, hall⟩, dec_big h, dec_small h2]
    simp only [List.cons_append, List.nil_append, List.foldl_cons, List.foldl_nil]
    rw [dvS_dec h2, dvS_dec (by omega)]
    omega

/-! Splitting at a byte. -/
def splA (c : UInt8) : List UInt8 → List UInt8 → List (List UInt8)
  | cur, [] => [cur]
  | cur, b :: r => if b = c then cur :: splA c [] r else splA c (cur ++ [b]) r
def spl (c : UInt8) (l : List UInt8) : List (List UInt8) := splA c [] l
theorem splA_ne (c : UInt8) : ∀ (l cur : List UInt8), ∃ x r, splA c cur l = x :: r
  | [], cur => ⟨cur, [], rfl⟩
  | b :: l, cur => by
    rw [splA]
    split
    · exact ⟨_, _, rfl⟩
    · exact splA_ne c l _
theorem splA_join (c : UInt8) : ∀ (l cur : List UInt8), Lib.join (splA c cur l) [c] = cur ++ l
  | [], cur => by simp [splA, Lib.join]
  | b :: l, cur => by
    rw [splA]
    split
    · rename_i h
      obtain ⟨x, r, e⟩ := splA_ne c l []
      have ih := splA_join c l []
      rw [e] at ih ⊢
      rw [Lib.join_cons, Lib.joinTail] at *
      simp only [List.map_cons, List.flatten_cons] at *
      rw [h]
      simp only [List.nil_append] at ih
      rw [← ih]
      simp
    · rw [splA_join c l, List.append_assoc]
      rfl
theorem splA_no (c : UInt8) : ∀ (l cur : List UInt8), c ∉ cur → ∀ y ∈ splA c cur l, c ∉ y
  | [], cur, h, y, hy => by
    simp only [splA, List.mem_cons, List.not_mem_nil, or_false] at hy
    rw [hy]
    exact h
  | b :: l, cur, h, y, hy => by
    rw [splA] at hy
    split at hy
    · rcases List.mem_cons.1 hy with rfl | hy
      · exact h
      · exact splA_no c l [] (by simp) y hy
    · rename_i hb
      exact splA_no c l _ (by simp [h]; exact fun e => hb e.symm) y hy
theorem splA_word (c : UInt8) : ∀ (x cur r : List UInt8), c ∉ x → splA c cur (x ++ r) = splA c (cur ++ x) r
  | [], cur, r, _ => by simp
  | b :: x, cur, r, h => by
    have hb : ¬ b = c := fun e => h (by rw [e]; simp)
    rw [List.cons_append, splA, if_neg hb, splA_word c x _ r (fun hx => h (by simp [hx])), List.append_assoc]
    rfl
theorem spl_join (c : UInt8) : ∀ (ws : List (List UInt8)) (x : List UInt8), (∀ y ∈ x :: ws, c ∉ y) → spl c (Lib.join (x :: ws) [c]) = x :: ws
  | [], x, h => by
    have e : Lib.join [x] [c] = x ++ [] := by simp [Lib.join]
    rw [e, spl, splA_word c x [] [] (h x (by simp))]
    simp [splA]
  | y :: ws, x, h => by
    have e : Lib.join (x :: y :: ws) [c] = x ++ (c :: Lib.join (y :: ws) [c]) := by
      rw [Lib.join_cons, Lib.join_cons]
      simp [Lib.joinTail]
    rw [e, spl, splA_word c x [] _ (h x (by simp)), List.nil_append, splA, if_pos rfl]
    have := spl_join c ws y (fun z hz => h z (by simp [hz]))
    rw [spl] at this
    rw [this]

/-! The words behind the first, read as numbers. -/
def numsO : List (List UInt8) → Option (List Int)
  | [] => some []
  | y :: r => match Lib.atoiAll y with
    | .ok v => (numsO r).map (v :: ·)
    | _ => none
theorem numsO_no {r : List (List UInt8)} {k : Nat} {y : List UInt8} (h : r[k]? = some y) (hy : ∀ v, Lib.atoiAll y ≠ .ok v) : numsO r = none := by
  induction r generalizing k with
  | nil => simp at h
  | cons z r ih =>
    cases k with
    | zero =>
      simp at h
      subst h
      rw [numsO]
      split
      · rename_i v e
        exact absurd e (hy v)
      · rfl
    | succ k =>
      rw [numsO, ih (k := k) (by simpa using h)]
      split <;> rfl
def atN (y : List UInt8) : Int := match Lib.atoiAll y with
  | .ok v => v
  | _ => 0
theorem numsO_all {r : List (List UInt8)} (h : ∀ (k : Nat) y, r[k]? = some y → ∃ v, Lib.atoiAll y = .ok v) : numsO r = some (r.map atN) := by
  induction r with
  | nil => rfl
  | cons z r ih =>
    obtain ⟨v, hv⟩ := h 0 z (by simp)
    rw [numsO, hv, ih (fun k y hk => h (k + 1) y (by simpa using hk))]
    simp [atN, hv]

end Go.Proofs.YtgeophllbmjjfaaDoor
