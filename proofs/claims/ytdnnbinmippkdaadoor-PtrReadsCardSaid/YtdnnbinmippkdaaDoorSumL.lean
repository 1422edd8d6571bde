/- Plain facts on Fletcher's sum: words, pieces, a byte turned. -/
import Derived.Test.YtdnnbinmippkdaaDoorSumG
namespace Go.Proofs.YtdnnbinmippkdaaDoor
open Go.RowKit
set_option maxRecDepth 100000

theorem lowW_val {a b c d : Int} (ha : 0 ≤ a ∧ a < 256) (hb : 0 ≤ b ∧ b < 256) (hc : 0 ≤ c ∧ c < 256) (hd : 0 ≤ d ∧ d < 256) : lowW a b c d = a + 256 * b + 65536 * c + 16777216 * d := by
  obtain ⟨a, rfl⟩ : ∃ n : Nat, a = n := ⟨a.toNat, by omega⟩
  obtain ⟨b, rfl⟩ : ∃ n : Nat, b = n := ⟨b.toNat, by omega⟩
  obtain ⟨c, rfl⟩ : ∃ n : Nat, c = n := ⟨c.toNat, by omega⟩
  obtain ⟨d, rfl⟩ : ∃ n : Nat, d = n := ⟨d.toNat, by omega⟩
  unfold lowW
  have e1 : (b : Int) * 256 = ((2 ^ 8 * b : Nat) : Int) := by omega
  have e2 : (c : Int) * 65536 = ((2 ^ 16 * c : Nat) : Int) := by omega
  have e3 : (d : Int) * 16777216 = ((2 ^ 24 * d : Nat) : Int) := by omega
  have f1 : a ||| 2 ^ 8 * b = 2 ^ 8 * b + a := by rw [Nat.or_comm, ← Nat.two_pow_add_eq_or_of_lt (by omega)]
  have f2 : (2 ^ 8 * b + a) ||| 2 ^ 16 * c = 2 ^ 16 * c + (2 ^ 8 * b + a) := by rw [Nat.or_comm, ← Nat.two_pow_add_eq_or_of_lt (by omega)]
  have f3 : (2 ^ 16 * c + (2 ^ 8 * b + a)) ||| 2 ^ 24 * d = 2 ^ 24 * d + (2 ^ 16 * c + (2 ^ 8 * b + a)) := by rw [Nat.or_comm, ← Nat.two_pow_add_eq_or_of_lt (by omega)]
  rw [e1, u32_or_nat _ _ (by omega) (by omega), f1, e2, u32_or_nat _ _ (by omega) (by omega), f2, e3, u32_or_nat _ _ (by omega) (by omega), f3]
  omega
/-- The words of bytes, and their sums. -/
def wv4 (zs : List Int) (k : Nat) : Int := lowW (zA zs (4 * k)) (zA zs (4 * k + 1)) (zA zs (4 * k + 2)) (zA zs (4 * k + 3))
def sA (zs : List Int) : Nat → Int
  | 0 => 0
  | m + 1 => sA zs m + wv4 zs m
def sB (zs : List Int) : Nat → Int
  | 0 => 0
  | m + 1 => sB zs m + sA zs (m + 1)
theorem u64w (n : Int) : IntKind.u64.wrap n = n % 18446744073709551616 := rfl
theorem flW_ab (zs : List Int) (m : Nat) : (flW Z4 zs m).a = sA zs m % 18446744073709551616 ∧ (flW Z4 zs m).b = sB zs m % 18446744073709551616 := by
  induction m with
  | zero => exact ⟨rfl, rfl⟩
  | succ m ih =>
    obtain ⟨h1, h2⟩ := ih
    have e1 : (flW Z4 zs (m + 1)).a = ((flW Z4 zs m).a + wv4 zs m) % 18446744073709551616 := rfl
    have e2 : (flW Z4 zs (m + 1)).b = ((flW Z4 zs m).b + (((flW Z4 zs m).a + wv4 zs m) % 18446744073709551616)) % 18446744073709551616 := rfl
    rw [e1, e2, h1, h2]
    simp only [sA, sB]
    omega
theorem fletch_all (zs : List Int) : fletch zs = flW Z4 zs ((zs.length + 3) / 4) := by
  unfold fletch
  split
  · rw [show (zs.length + 3) / 4 = zs.length / 4 by omega]
  · rw [show (zs.length + 3) / 4 = zs.length / 4 + 1 by omega, flW]
    congr 2
    unfold zA
    rw [List.getD_eq_getElem?_getD, List.getElem?_eq_none (by omega)]
    rfl
theorem zA_left {a b : List Int} {i : Nat} (h : i < a.length) : zA (a ++ b) i = zA a i := by
  unfold zA
  rw [List.getD_eq_getElem?_getD, List.getD_eq_getElem?_getD, List.getElem?_append_left h]
theorem zA_right (a b : List Int) (i : Nat) : zA (a ++ b) (a.length + i) = zA b i := by
  unfold zA
  rw [List.getD_eq_getElem?_getD, List.getD_eq_getElem?_getD, List.getElem?_append_right (by omega), Nat.add_sub_cancel_left]
theorem sA_left {a b : List Int} {q : Nat} (h : a.length = 4 * q) (m : Nat) (hm : m ≤ q) : sA (a ++ b) m = sA a m ∧ sB (a ++ b) m = sB a m := by
  induction m with
  | zero => exact ⟨rfl, rfl⟩
  | succ m ih =>
    obtain ⟨h1, h2⟩ := ih (by omega)
    have e : wv4 (a ++ b) m = wv4 a m := by
      unfold wv4
      rw [zA_left (by omega), zA_left (by omega), zA_left (by omega), zA_left (by omega)]
    simp only [sA, sB, h1, h2, e, and_self]
theorem sA_join {a b : List Int} {q : Nat} (h : a.length = 4 * q) (m : Nat) : sA (a ++ b) (q + m) = sA a q + sA b m ∧ sB (a ++ b) (q + m) = sB a q + (m : Int) * sA a q + sB b m := by
  induction m with
  | zero => have := sA_left (b := b) h q (Nat.le_refl _); simp [sA, sB, this]
  | succ m ih =>
    obtain ⟨h1, h2⟩ := ih
    have e : wv4 (a ++ b) (q + m) = wv4 b m := by
      unfold wv4
      rw [show 4 * (q + m) = a.length + 4 * m by omega, Nat.add_assoc, Nat.add_assoc, Nat.add_assoc, zA_right, zA_right, zA_right, zA_right]
    have e3 : sA (a ++ b) (q + (m + 1)) = sA a q + sA b (m + 1) := by
      rw [← Nat.add_assoc]
      simp only [sA, h1, e]
      omega
    refine ⟨e3, ?_⟩
    have e4 : sB (a ++ b) (q + (m + 1)) = sB (a ++ b) (q + m) + sA (a ++ b) (q + (m + 1)) := rfl
    rw [e4, e3, h2, show sB b (m + 1) = sB b m + sA b (m + 1) from rfl]
    have e5 : ((m + 1 : Nat) : Int) * sA a q = (m : Int) * sA a q + sA a q := by
      rw [show ((m + 1 : Nat) : Int) = (m : Int) + 1 by omega, Int.add_mul, Int.one_mul]
    rw [e5]
    omega
/-- The sum of two pieces is told by theirs. -/
theorem joins_ab {a b : List Int} {q : Nat} (h : a.length = 4 * q) : (fletch (a ++ b)).a = IntKind.u64.wrap ((fletch a).a + (fletch b).a) ∧ (fletch (a ++ b)).b = IntKind.u64.wrap (IntKind.u64.wrap ((fletch a).b + IntKind.u64.wrap ((((b.length + 3) / 4 : Nat) : Int) * (fletch a).a)) + (fletch b).b) := by
  rw [fletch_all (a ++ b), fletch_all a, fletch_all b]
  obtain ⟨m, hm⟩ : ∃ m, (b.length + 3) / 4 = m := ⟨_, rfl⟩
  rw [hm, show ((a ++ b).length + 3) / 4 = q + m by rw [List.length_append]; omega, show (a.length + 3) / 4 = q by omega]
  obtain ⟨x1, x2⟩ := flW_ab (a ++ b) (q + m)
  obtain ⟨y1, y2⟩ := flW_ab a q
  obtain ⟨z1, z2⟩ := flW_ab b m
  obtain ⟨j1, j2⟩ := sA_join (b := b) h m
  rw [x1, x2, y1, y2, z1, z2, j1, j2]
  simp only [u64w]
  have hmul : ((m : Int) * (sA a q % 18446744073709551616)) % 18446744073709551616 = ((m : Int) * sA a q) % 18446744073709551616 := by rw [Int.mul_emod, Int.emod_emod_of_dvd _ (Int.dvd_refl _), ← Int.mul_emod]
  rw [hmul]
  generalize (m : Int) * sA a q = P
  constructor <;> omega
/-- A byte turned alone turns the sum's first part. -/
theorem xor_ne {x m : Int} (hx : 0 ≤ x ∧ x < 256) (hm : 0 ≤ m ∧ m < 256) (h0 : m ≠ 0) : bits .xor .u8 x m ≠ x ∧ 0 ≤ bits .xor .u8 x m ∧ bits .xor .u8 x m < 256 := by
  obtain ⟨x, rfl⟩ : ∃ n : Nat, x = n := ⟨x.toNat, by omega⟩
  obtain ⟨m, rfl⟩ : ∃ n : Nat, m = n := ⟨m.toNat, by omega⟩
  rw [u8_xor_nat _ _ (by omega) (by omega)]
  have hlt : x ^^^ m < 2 ^ 8 := Nat.xor_lt_two_pow (by omega) (by omega)
  refine ⟨fun h => ?_, by omega, by omega⟩
  have h2 : x ^^^ m = x := by omega
  have h3 : x ^^^ (x ^^^ m) = m := by rw [← Nat.xor_assoc, Nat.xor_self, Nat.zero_xor]
  rw [h2, Nat.xor_self] at h3
  omega
theorem zA_set (zs : List Int) (i : Nat) (z : Int) (j : Nat) (hi : i < zs.length) : zA (zs.set i z) j = if j = i then z else zA zs j := by
  unfold zA
  rw [List.getD_eq_getElem?_getD, List.getD_eq_getElem?_getD, List.getElem?_set]
  by_cases h : i = j
  · subst h; simp [hi]
  · rw [if_neg h, if_neg (by omega)]
theorem turned_a {zs : List Int} (hb : ∀ z ∈ zs, 0 ≤ z ∧ z < 256) {i : Nat} (hi : i < zs.length) {z : Int} (hz : 0 ≤ z ∧ z < 256) (hne : z ≠ zA zs i) : (fletch (zs.set i z)).a ≠ (fletch zs).a := by
  have hzb := zA_bd hb
  have hsb : ∀ j, 0 ≤ zA (zs.set i z) j ∧ zA (zs.set i z) j < 256 := fun j => by rw [zA_set _ _ _ _ hi]; split; exact hz; exact hzb j
  have hw : ∀ k, k ≠ i / 4 → wv4 (zs.set i z) k = wv4 zs k := fun k hk => by
    unfold wv4
    rw [zA_set _ _ _ _ hi, zA_set _ _ _ _ hi, zA_set _ _ _ _ hi, zA_set _ _ _ _ hi, if_neg (by omega), if_neg (by omega), if_neg (by omega), if_neg (by omega)]
  have hwd : wv4 (zs.set i z) (i / 4) - wv4 zs (i / 4) ≠ 0 ∧ wv4 (zs.set i z) (i / 4) - wv4 zs (i / 4) < 4294967296 ∧ -4294967296 < wv4 (zs.set i z) (i / 4) - wv4 zs (i / 4) := by
    unfold wv4
    rw [lowW_val (hsb _) (hsb _) (hsb _) (hsb _), lowW_val (hzb _) (hzb _) (hzb _) (hzb _)]
    simp only [zA_set _ _ _ _ hi]
    have q0 := hzb (4 * (i / 4))
    have q1 := hzb (4 * (i / 4) + 1)
    have q2 := hzb (4 * (i / 4) + 2)
    have q3 := hzb (4 * (i / 4) + 3)
    have h4 : i % 4 = 0 ∨ i % 4 = 1 ∨ i % 4 = 2 ∨ i % 4 = 3 := by omega
    rcases h4 with h | h | h | h
    · have e : 4 * (i / 4) = i := by omega
      have ei := congrArg (zA zs) e
      rw [if_pos e, if_neg (by omega), if_neg (by omega), if_neg (by omega)]
      omega
    · have e : 4 * (i / 4) + 1 = i := by omega
      have ei := congrArg (zA zs) e
      rw [if_neg (by omega), if_pos e, if_neg (by omega), if_neg (by omega)]
      omega
    · have e : 4 * (i / 4) + 2 = i := by omega
      have ei := congrArg (zA zs) e
      rw [if_neg (by omega), if_neg (by omega), if_pos e, if_neg (by omega)]
      omega
    · have e : 4 * (i / 4) + 3 = i := by omega
      have ei := congrArg (zA zs) e
      rw [if_neg (by omega), if_neg (by omega), if_neg (by omega), if_pos e]
      omega
  have hs : ∀ m, sA (zs.set i z) m = sA zs m + if i / 4 < m then wv4 (zs.set i z) (i / 4) - wv4 zs (i / 4) else 0 := fun m => by
    induction m with
    | zero => simp [sA]
    | succ m ih =>
      simp only [sA, ih]
      by_cases h1 : i / 4 < m
      · rw [if_pos h1, if_pos (by omega), hw m (by omega)]; omega
      · by_cases h2 : m = i / 4
        · subst h2; rw [if_neg (by omega), if_pos (by omega)]; omega
        · rw [if_neg h1, if_neg (by omega), hw m h2]; omega
  rw [fletch_all, fletch_all, List.length_set]
  intro h
  rw [(flW_ab _ _).1, (flW_ab _ _).1, hs, if_pos (by omega)] at h
  omega
end Go.Proofs.YtdnnbinmippkdaaDoor
