/- Plain facts on Fletcher's sum: words, pieces, a byte turned. The document's Fletcher. The document's words. -/
import Derived.Test.YtignoocdeghiaaaDoorQak
import Derived.Test.YtignoocdeghiaaaDoorQam
namespace Go.Proofs.YtignoocdeghiaaaDoor
section
open Go.RowKit
set_option maxRecDepth 100000

theorem lowW_val {a b c d : Int} (ha : 0 ≤ a ∧ a < 256) (hb : 0 ≤ b ∧ b < 256) (hc : 0 ≤ c ∧ c < 256) (hd : 0 ≤ d ∧ d < 256) : lowW a b c d = a + 256 * b + 65536 * c + 16777216 * d := by
  obtain ⟨a, rfl⟩ : ∃ n : Nat, a = n := ⟨a.toNat, by omega⟩
  obtain ⟨b, rfl⟩ : ∃ n : Nat, b = n := ⟨b.toNat, by omega⟩
  obtain ⟨c, rfl⟩ : ∃ n : Nat, c = n := ⟨c.toNat, by omega⟩
  obtain ⟨d, rfl⟩ : ∃ n : Nat, d = n := ⟨d.toNat, by omega⟩
  unfold lowW
  have e1 : (b : Int) * 256 = ((2 ^ 8 * b : Nat) : Int) := by omega
  have e2 : (c : Int) * 65536 = ((2 ^ 16 * c : Nat) : Int) := by omega
  have e3 : (d : Int) * 16777216 = ((2 ^ 24 * d : Nat) : Int) := by omega
  have f1 : a ||| 2 ^ 8 * b = 2 ^ 8 * b + a := by rw [Nat.or_comm, ← Nat.two_pow_add_eq_or_of_lt (by omega)]
  have f2 : (2 ^ 8 * b + a) ||| 2 ^ 16 * c = 2 ^ 16 * c + (2 ^ 8 * b + a) := by rw [Nat.or_comm, ← Nat.two_pow_add_eq_or_of_lt (by omega)]
  have f3 : (2 ^ 16 * c + (2 ^ 8 * b + a)) ||| 2 ^ 24 * d = 2 ^ 24 * d + (2 ^ 16 * c + (2 ^ 8 * b + a)) := by rw [Nat.or_comm, ← Nat.two_pow_add_eq_or_of_lt (by omega)]
  rw [e1, u32_or_nat _ _ (by omega) (by omega), f1, e2, u32_or_nat _ _ (by omega) (by omega), f2, e3, u32_or_nat _ _ (by omega) (by omega), f3]
  omega
/-- The words of bytes, and their sums. -/
def wv4 (zs : List Int) (k : Nat) : Int := lowW (zA zs (4 * k)) (zA zs (4 * k + 1)) (zA zs (4 * k + 2)) (zA zs (4 * k + 3))
def sA (zs : List Int) : Nat → Int
  | 0 => 0
  | m + 1 => sA zs m + wv4 zs m
def sB (zs : List Int) : Nat → Int
  | 0 => 0
  | m + 1 => sB zs m + sA zs (m + 1)
theorem u64w (n : Int) : IntKind.u64.wrap n = n % 18446744073709551616 := rfl
theorem flW_ab (zs : List Int) (m : Nat) : (flW Z4 zs m).a = sA zs m % 18446744073709551616 ∧ (flW Z4 zs m).b = sB zs m % 18446744073709551616 := by
  induction m with
  | zero => exact ⟨rfl, rfl⟩
  | succ m ih =>
    obtain ⟨h1, h2⟩ := ih
    have e1 : (flW Z4 zs (m + 1)).a = ((flW Z4 zs m).a + wv4 zs m) % 18446744073709551616 := rfl
    have e2 : (flW Z4 zs (m + 1)).b = ((flW Z4 zs m).b + (((flW Z4 zs m).a + wv4 zs m) % 18446744073709551616)) % 18446744073709551616 := rfl
    rw [e1, e2, h1, h2]
    simp only [sA, sB]
    omega
theorem fletch_all (zs : List Int) : fletch zs = flW Z4 zs ((zs.length + 3) / 4) := by
  unfold fletch
  split
  · rw [show (zs.length + 3) / 4 = zs.length / 4 by omega]
  · rw [show (zs.length + 3) / 4 = zs.length / 4 + 1 by omega, flW]
    congr 2
    unfold zA
    rw [List.getD_eq_getElem?_getD, List.getElem?_eq_none (by omega)]
    rfl
theorem zA_left {a b : List Int} {i : Nat} (h : i < a.length) : zA (a ++ b) i = zA a i := by
  unfold zA
  rw [List.getD_eq_getElem?_getD, List.getD_eq_getElem?_getD, List.getElem?_append_left h]
theorem zA_right (a b : List Int) (i : Nat) : zA (a ++ b) (a.length + i) = zA b i := by
  unfold zA
  rw [List.getD_eq_getElem?_getD, List.getD_eq_getElem?_getD, List.getElem?_append_right (by omega), Nat.add_sub_cancel_left]
theorem sA_left {a b : List Int} {q : Nat} (h : a.length = 4 * q) (m : Nat) (hm : m ≤ q) : sA (a ++ b) m = sA a m ∧ sB (a ++ b) m = sB a m := by
  induction m with
  | zero => exact ⟨rfl, rfl⟩
  | succ m ih =>
    obtain ⟨h1, h2⟩ := ih (by omega)
    have e : wv4 (a ++ b) m = wv4 a m := by
      unfold wv4
      rw [zA_left (by omega), zA_left (by omega), zA_left (by omega), zA_left (by omega)]
    simp only [sA, sB, h1, h2, e, and_self]
theorem sA_join {a b : List Int} {q : Nat} (h : a.length = 4 * q) (m : Nat) : sA (a ++ b) (q + m) = sA a q + sA b m ∧ sB (a ++ b) (q + m) = sB a q + (m : Int) * sA a q + sB b m := by
  induction m with
  | zero => have := sA_left (b := b) h q (Nat.le_refl _); simp [sA, sB, this]
  | succ m ih =>
    obtain ⟨h1, h2⟩ := ih
    have e : wv4 (a ++ b) (q + m) = wv4 b m := by
      unfold wv4
      rw [show 4 * (q + m) = a.length + 4 * m by omega, Nat.add_assoc, Nat.add_assoc, Nat.add_assoc, zA_right, zA_right, zA_right, zA_right]
    have e3 : sA (a ++ b) (q + (m + 1)) = sA a q + sA b (m + 1) := by
      rw [← Nat.add_assoc]
      simp only [sA, h1, e]
      omega
    refine ⟨e3, ?_⟩
    have e4 : sB (a ++ b) (q + (m + 1)) = sB (a ++ b) (q + m) + sA (a ++ b) (q + (m + 1)) := rfl
    rw [e4, e3, h2, show sB b (m + 1) = sB b m + sA b (m + 1) from rfl]
    have e5 : ((m + 1 : Nat) : Int) * sA a q = (m : Int) * sA a q + sA a q := by
      rw [show ((m + 1 : Nat) : Int) = (m : Int) + 1 by omega, Int.add_mul, Int.one_mul]
    rw [e5]
    omega
/-- The sum of two pieces is told by theirs. -/
theorem joins_ab {a b : List Int} {q : Nat} (h : a.length = 4 * q) : (fletch (a ++ b)).a = IntKind.u64.wrap ((fletch a).a + (fletch b).a) ∧ (fletch (a ++ b)).b = IntKind.u64.wrap (IntKind.u64.wrap ((fletch a).b + IntKind.u64.wrap ((((b.length + 3) / 4 : Nat) : Int) * (fletch a).a)) + (fletch b).b) := by
  rw [fletch_all (a ++ b), fletch_all a, fletch_all b]
  obtain ⟨m, hm⟩ : ∃ m, (b.length + 3) / 4 = m := ⟨_, rfl⟩
  rw [hm, show ((a ++ b).length + 3) / 4 = q + m by rw [List.length_append]; omega, show (a.length + 3) / 4 = q by omega]
  obtain ⟨x1, x2⟩ := flW_ab (a ++ b) (q + m)
  obtain ⟨y1, y2⟩ := flW_ab a q
  obtain ⟨z1, z2⟩ := flW_ab b m
  obtain ⟨j1, j2⟩ := sA_join (b := b) h m
  rw [x1, x2, y1, y2, z1, z2, j1, j2]
  simp only [u64w]
  have hmul : ((m : Int) * (sA a q % 18446744073709551616)) % 18446744073709551616 = ((m : Int) * sA a q) % 18446744073709551616 := by rw [Int.mul_emod, Int.emod_emod_of_dvd _ (Int.dvd_refl _), ← Int.mul_emod]
  rw [hmul]
  generalize (m : Int) * sA a q = P
  constructor <;> omega
/-- A byte turned alone turns the sum's first part. -/
theorem xor_ne {x m : Int} (hx : 0 ≤ x ∧ x < 256) (hm : 0 ≤ m ∧ m < 256) (h0 : m ≠ 0) : bits .xor .u8 x m ≠ x ∧ 0 ≤ bits .xor .u8 x m ∧ bits .xor .u8 x m < 256 := by
  obtain ⟨x, rfl⟩ : ∃ n : Nat, x = n := ⟨x.toNat, by omega⟩
  obtain ⟨m, rfl⟩ : ∃ n : Nat, m = n := ⟨m.toNat, by omega⟩
  rw [u8_xor_nat _ _ (by omega) (by omega)]
  have hlt : x ^^^ m < 2 ^ 8 := Nat.xor_lt_two_pow (by omega) (by omega)
  refine ⟨fun h => ?_, by omega, by omega⟩
  have h2 : x ^^^ m = x := by omega
  have h3 : x ^^^ (x ^^^ m) = m := by rw [← Nat.xor_assoc, Nat.xor_self, Nat.zero_xor]
  rw [h2, Nat.xor_self] at h3
  omega
theorem zA_set (zs : List Int) (i : Nat) (z : Int) (j : Nat) (hi : i < zs.length) : zA (zs.set i z) j = if j = i then z else zA zs j := by
  unfold zA
  rw [List.getD_eq_getElem?_getD, List.getD_eq_getElem?_getD, List.getElem?_set]
  by_cases h : i = j
  · subst h; simp [hi]
  · rw [if_neg h, if_neg (by omega)]
theorem turned_a {zs : List Int} (hb : ∀ z ∈ zs, 0 ≤ z ∧ z < 256) {i : Nat} (hi : i < zs.length) {z : Int} (hz : 0 ≤ z ∧ z < 256) (hne : z ≠ zA zs i) : (fletch (zs.set i z)).a ≠ (fletch zs).a := by
  have hzb := zA_bd hb
  have hsb : ∀ j, 0 ≤ zA (zs.set i z) j ∧ zA (zs.set i z) j < 256 := fun j => by rw [zA_set _ _ _ _ hi]; split; exact hz; exact hzb j
  have hw : ∀ k, k ≠ i / 4 → wv4 (zs.set i z) k = wv4 zs k := fun k hk => by
    unfold wv4
    rw [zA_set _ _ _ _ hi, zA_set _ _ _ _ hi, zA_set _ _ _ _ hi, zA_set _ _ _ _ hi, if_neg (by omega), if_neg (by omega), if_neg (by omega), if_neg (by omega)]
  have hwd : wv4 (zs.set i z) (i / 4) - wv4 zs (i / 4) ≠ 0 ∧ wv4 (zs.set i z) (i / 4) - wv4 zs (i / 4) < 4294967296 ∧ -4294967296 < wv4 (zs.set i z) (i / 4) - wv4 zs (i / 4) := by
    unfold wv4
    rw [lowW_val (hsb _) (hsb _) (hsb _) (hsb _), lowW_val (hzb _) (hzb _) (hzb _) (hzb _)]
    simp only [zA_set _ _ _ _ hi]
    have q0 := hzb (4 * (i / 4))
    have q1 := hzb (4 * (i / 4) + 1)
    have q2 := hzb (4 * (i / 4) + 2)
    have q3 := hzb (4 * (i / 4) + 3)
    have h4 : i % 4 = 0 ∨ i % 4 = 1 ∨ i % 4 = 2 ∨ i % 4 = 3 := by omega
    rcases h4 with h | h | h | h
    · have e : 4 * (i / 4) = i := by omega
      have ei := congrArg (zA zs) e
      rw [if_pos e, if_neg (by omega), if_neg (by omega), if_neg (by omega)]
      omega
    · have e : 4 * (i / 4) + 1 = i := by omega
      have ei := congrArg (zA zs) e
      rw [if_neg (by omega), if_pos e, if_neg (by omega), if_neg (by omega)]
      omega
    · have e : 4 * (i / 4) + 2 = i := by omega
      have ei := congrArg (zA zs) e
      rw [if_neg (by omega), if_neg (by omega), if_pos e, if_neg (by omega)]
      omega
    · have e : 4 * (i / 4) + 3 = i := by omega
      have ei := congrArg (zA zs) e
      rw [if_neg (by omega), if_neg (by omega), if_neg (by omega), if_pos e]
      omega
  have hs : ∀ m, sA (zs.set i z) m = sA zs m + if i / 4 < m then wv4 (zs.set i z) (i / 4) - wv4 zs (i / 4) else 0 := fun m => by
    induction m with
    | zero => simp [sA]
    | succ m ih =>
      simp only [sA, ih]
      by_cases h1 : i / 4 < m
      · rw [if_pos h1, if_pos (by omega), hw m (by omega)]; omega
      · by_cases h2 : m = i / 4
        · subst h2; rw [if_neg (by omega), if_pos (by omega)]; omega
        · rw [if_neg h1, if_neg (by omega), hw m h2]; omega
  rw [fletch_all, fletch_all, List.length_set]
  intro h
  rw [(flW_ab _ _).1, (flW_ab _ _).1, hs, if_pos (by omega)] at h
  omega
end
section
open Go.RowKit
set_option maxRecDepth 100000

/-- The word behind so many rounds of the inner loop. -/
def wdD (zs : List Int) (i : Nat) : Nat → Int
  | 0 => 0
  | t + 1 => 256 * wdD zs i t + zA zs (i + (3 - t))
theorem wdD_bd {zs : List Int} (hb : ∀ i, 0 ≤ zA zs i ∧ zA zs i < 256) (i t : Nat) : 0 ≤ wdD zs i t ∧ wdD zs i t < 256 ^ t := by
  induction t with
  | zero => simp [wdD]
  | succ t ih =>
    have h := hb (i + (3 - t))
    rw [wdD, Int.pow_succ]
    omega
theorem wdD_four {zs : List Int} (hb : ∀ i, 0 ≤ zA zs i ∧ zA zs i < 256) (i : Nat) : wdD zs i 4 = lowW (zA zs i) (zA zs (i + 1)) (zA zs (i + 2)) (zA zs (i + 3)) := by
  rw [lowW_val (hb _) (hb _) (hb _) (hb _)]
  simp only [wdD, Nat.sub_zero, Nat.sub_self, Nat.add_zero, show 3 - 1 = 2 from rfl, show 3 - 2 = 1 from rfl]
  omega
theorem zA_out {zs : List Int} {i : Nat} (h : zs.length ≤ i) : zA zs i = 0 := by
  unfold zA
  rw [List.getD_eq_getElem?_getD, List.getElem?_eq_none h]
  rfl
theorem fl_up (zs : List Int) : flW Z4 zs ((zs.length + 3) / 4) = fletch zs := by
  unfold fletch
  by_cases h : zs.length % 4 = 0
  · rw [if_pos h, show (zs.length + 3) / 4 = zs.length / 4 by omega]
  · rw [if_neg h, show (zs.length + 3) / 4 = zs.length / 4 + 1 by omega, flW, zA_out (i := 4 * (zs.length / 4) + 3) (by omega)]
/-- The blocks inside the document's Fletcher: the result, the sum. -/
structure StF (w0 w : World) (s : S4) : Prop where
  h0 : w.heap[w0.heap.size]? = some (.cells #[.int .u64 0, .int .u64 0, .int .u64 0, .int .u64 0] 68 (0, 0))
  h1 : w.heap[w0.heap.size + 1]? = some (.cells s.arr 68 (0, 0))
  fr : Frm [] w0 w
set_option maxHeartbeats 3200000 in
theorem refFl_any (p : Option Addr) (n c : Nat) (zs : List Int) (w : World) (hn : zs.length = n) (hnb : n ≤ 9223372036854775790) (hrd : Rd w p zs) (hb : ∀ z ∈ zs, 0 ≤ z ∧ z < 256) :
    Calls Tryd.prog 61 #[.slice p n c] w fun e w' => e = .returned (.agg (fletch zs).arr) ∧ Frm [] w w' := by
  have HRD := hid hrd
  have HN := hid hn
  have HZ := hid (zA_bd hb)
  have HU := hid (fl_up zs)
  rw [hn] at HU
  have hfa : Frm [] w (w.alloc (.cells #[.int .u64 0, .int .u64 0, .int .u64 0, .int .u64 0] 68)) := (Frm.refl _ _).alloc _
  have hfb : Frm [] (w.alloc (.cells #[.int .u64 0, .int .u64 0, .int .u64 0, .int .u64 0] 68)) ((w.alloc (.cells #[.int .u64 0, .int .u64 0, .int .u64 0, .int .u64 0] 68)).alloc (.cells #[.int .u64 0, .int .u64 0, .int .u64 0, .int .u64 0] 68)) := (Frm.refl _ _).alloc _
  have HS0 : Hid (StF w ((w.alloc (.cells #[.int .u64 0, .int .u64 0, .int .u64 0, .int .u64 0] 68)).alloc (.cells #[.int .u64 0, .int .u64 0, .int .u64 0, .int .u64 0] 68)) (flW Z4 zs 0)) := hid ⟨hfb.heap (heap_alloc_new _ _) (by simp), heap_alloc_to _ _ (by simp), hfa.trans hfb (by simp)⟩
  clear hrd hb hn hfa hfb
  go_enter Tryd.func61, Tryd.ntmps61
  go_wp2_with fail
  go_loopw [4] (fun i wr => ∃ k : Nat, Hid (4 * k ≤ n + 3) ∧ i = .int .i64 (4 * (k : Int)) ∧ Hid (StF w wr (flW Z4 zs k))) (fun i _ => n + 3 - (intOf i).toNat)
  case atStart => exact ⟨0, hid (by omega), rfl, HS0⟩
  case round =>
    clear HS0
    obtain ⟨k, hk, rfl, hst⟩ := hrel
    have hk' := hk.out
    by_cases hlt : 4 * (k : Int) < (n : Int)
    · go_wp2_with fail
      go_loopw [5, 6] (fun x y wi => ∃ t : Nat, t ≤ 4 ∧ Hid (x = .int .u64 (wdD zs (4 * k) t)) ∧ y = .int .i64 (3 - (t : Int)) ∧ Hid (StF w wi (flW Z4 zs k))) (fun x y _ => (intOf y + 1).toNat)
      case atStart => exact ⟨0, by omega, hid rfl, rfl, hst⟩
      case round =>
        clear hst
        obtain ⟨t, ht, hx, rfl, hst⟩ := hrel
        obtain rfl := hx.out
        by_cases ht4 : t < 4
        · obtain ⟨W, hW⟩ : ∃ W, wdD zs (4 * k) t = W := ⟨_, rfl⟩
          have hWb := wdD_bd HZ.out (4 * k) t
          have hp : (256 : Int) ^ t ≤ 16777216 := by
            have h3 : t = 0 ∨ t = 1 ∨ t = 2 ∨ t = 3 := by omega
            rcases h3 with rfl | rfl | rfl | rfl <;> decide
          have hnx : wdD zs (4 * k) (t + 1) = 256 * W + zA zs (4 * k + (3 - t)) := by rw [wdD, hW]
          rw [hW] at hWb ⊢
          have hWlt : W < 16777216 := Int.lt_of_lt_of_le hWb.2 hp
          have hWge := hWb.1
          clear hWb
          obtain ⟨J, hJ⟩ : ∃ J, 4 * k + (3 - t) = J := ⟨_, rfl⟩
          have hJi : IntKind.i64.wrap (4 * (k : Int) + (3 - (t : Int))) = (J : Int) := by rw [IntWalk.i64_in _ (by omega)]; omega
          have hz := HZ.out J
          rw [hJ] at hnx
          have q0 : IntKind.u64.wrap (256 * W) = 256 * W := IntWalk.u64_in _ (by omega)
          have q1 : IntKind.i64.wrap (3 - (t : Int) - 1) = 3 - ((t + 1 : Nat) : Int) := by rw [IntWalk.i64_in _ (by omega)]; omega
          have HNX := hid hnx
          have g3 : (0 : Int) ≤ 3 - (t : Int) := by omega
          clear hnx hx hW hp
          by_cases hJn : (J : Int) < (n : Int)
          · obtain ⟨g, o, rfl, hc⟩ := rd_byte (i := J) (HRD.out.kept hst.out.fr (by simp)) (by rw [HN.out]; omega)
            have hc' : wr.cell? ⟨g, o + J, none⟩ = some (.int .u8 (zA zs J)) := hc
            obtain ⟨z, hzz⟩ : ∃ z, zA zs J = z := ⟨_, rfl⟩
            rw [hzz] at hz hc'
            have q2 : IntKind.u64.wrap z = z := IntWalk.u64_in _ (by omega)
            have q3 : IntKind.u64.wrap (256 * W + z) = 256 * W + z := IntWalk.u64_in _ (by omega)
            have HZZ := hid hzz
            clear hc hzz hJ
            go_wp2_with fail
            go_roundw
            case rel => exact ⟨t + 1, by omega, hid (by rw [HNX.out, HZZ.out]), rfl, hst⟩
            case measure => simp [intOf]; omega
          · have hz0 : zA zs J = 0 := zA_out (by rw [HN.out]; omega)
            have HZZ := hid hz0
            clear hz0 hJ
            go_wp2_with fail
            go_roundw
            case rel => exact ⟨t + 1, by omega, hid (by rw [HNX.out, HZZ.out, Int.add_zero]), rfl, hst⟩
            case measure => simp [intOf]; omega
        · obtain rfl : t = 4 := by omega
          rw [wdD_four HZ.out]
          have hlb := lowW_bd (zA zs (4 * k)) (zA zs (4 * k + 1)) (zA zs (4 * k + 2)) (zA zs (4 * k + 3))
          have hnx : wordS (flW Z4 zs k) (lowW (zA zs (4 * k)) (zA zs (4 * k + 1)) (zA zs (4 * k + 2)) (zA zs (4 * k + 3))) = flW Z4 zs (k + 1) := rfl
          obtain ⟨L, hL⟩ : ∃ L, lowW (zA zs (4 * k)) (zA zs (4 * k + 1)) (zA zs (4 * k + 2)) (zA zs (4 * k + 3)) = L := ⟨_, rfl⟩
          obtain ⟨cur, hcur⟩ : ∃ cur, flW Z4 zs k = cur := ⟨_, rfl⟩
          rw [hL] at hlb hnx ⊢
          rw [hcur] at hnx hst
          have HNX := hid hnx
          have l1 := lt_of_heap hst.out.h1
          have e0 : wr.cell? ⟨w.heap.size + 1, 0, none⟩ = some (.int .u64 cur.a) := by rw [cell_of_row wr _ _ _ _ _ hst.out.h1]; rfl
          have e1 : wr.cell? ⟨w.heap.size + 1, 1, none⟩ = some (.int .u64 cur.b) := by rw [cell_of_row wr _ _ _ _ _ hst.out.h1]; rfl
          have e2 : wr.cell? ⟨w.heap.size + 1, 2, none⟩ = some (.int .u64 cur.c) := by rw [cell_of_row wr _ _ _ _ _ hst.out.h1]; rfl
          have e3 : wr.cell? ⟨w.heap.size + 1, 3, none⟩ = some (.int .u64 cur.d) := by rw [cell_of_row wr _ _ _ _ _ hst.out.h1]; rfl
          have z0 : wr.frozen? ⟨w.heap.size + 1, 0, none⟩ = false := frozen_of_row wr _ 0 _ _ hst.out.h1
          have z1 : wr.frozen? ⟨w.heap.size + 1, 1, none⟩ = false := frozen_of_row wr _ 1 _ _ hst.out.h1
          have z2 : wr.frozen? ⟨w.heap.size + 1, 2, none⟩ = false := frozen_of_row wr _ 2 _ _ hst.out.h1
          have z3 : wr.frozen? ⟨w.heap.size + 1, 3, none⟩ = false := frozen_of_row wr _ 3 _ _ hst.out.h1
          have HS4 := hid (set4 (y0 := .int .u64 (wordS cur L).a) (y1 := .int .u64 (wordS cur L).b) (y2 := .int .u64 (wordS cur L).c) (y3 := .int .u64 (wordS cur L).d) hst.out.h1)
          have q1 : IntKind.i64.wrap (4 * (k : Int) + 4) = 4 * ((k + 1 : Nat) : Int) := by rw [IntWalk.i64_in _ (by omega)]; omega
          rw [show (3 - ((4 : Nat) : Int)) = -1 from rfl]
          have HST0 := hid (And.intro hst.out.h0 hst.out.fr)
          clear hnx hL hcur hx hst ht ht4
          go_wp2_with fail
          go_roundw
          case rel =>
            obtain ⟨h4, f4⟩ := HS4.out
            refine ⟨k + 1, hid (by omega), rfl, hid ⟨f4.heap HST0.out.1 (by simp), ?_, HST0.out.2.trans f4 (fun i hi hl => by simp at hi; omega)⟩⟩
            rw [← HNX.out]
            exact h4
          case measure => simp [intOf]; omega
    · have hkq : k = (n + 3) / 4 := by omega
      have hst' := hst.out
      rw [hkq, HU.out] at hst'
      obtain ⟨S, hS⟩ : ∃ S, fletch zs = S := ⟨_, rfl⟩
      rw [hS] at hst'
      have HS := hid hS
      have e0 : wr.cell? ⟨w.heap.size + 1, 0, none⟩ = some (.int .u64 S.a) := by rw [cell_of_row wr _ _ _ _ _ hst'.h1]; rfl
      have e1 : wr.cell? ⟨w.heap.size + 1, 1, none⟩ = some (.int .u64 S.b) := by rw [cell_of_row wr _ _ _ _ _ hst'.h1]; rfl
      have e2 : wr.cell? ⟨w.heap.size + 1, 2, none⟩ = some (.int .u64 S.c) := by rw [cell_of_row wr _ _ _ _ _ hst'.h1]; rfl
      have e3 : wr.cell? ⟨w.heap.size + 1, 3, none⟩ = some (.int .u64 S.d) := by rw [cell_of_row wr _ _ _ _ _ hst'.h1]; rfl
      have r0 : wr.cell? ⟨w.heap.size, 0, none⟩ = some (.int .u64 0) := by rw [cell_of_row wr _ _ _ _ _ hst'.h0]; rfl
      have r1 : wr.cell? ⟨w.heap.size, 1, none⟩ = some (.int .u64 0) := by rw [cell_of_row wr _ _ _ _ _ hst'.h0]; rfl
      have r2 : wr.cell? ⟨w.heap.size, 2, none⟩ = some (.int .u64 0) := by rw [cell_of_row wr _ _ _ _ _ hst'.h0]; rfl
      have r3 : wr.cell? ⟨w.heap.size, 3, none⟩ = some (.int .u64 0) := by rw [cell_of_row wr _ _ _ _ _ hst'.h0]; rfl
      have z0 : wr.frozen? ⟨w.heap.size, 0, none⟩ = false := frozen_of_row wr _ 0 _ _ hst'.h0
      have z1 : wr.frozen? ⟨w.heap.size, 1, none⟩ = false := frozen_of_row wr _ 1 _ _ hst'.h0
      have z2 : wr.frozen? ⟨w.heap.size, 2, none⟩ = false := frozen_of_row wr _ 2 _ _ hst'.h0
      have z3 : wr.frozen? ⟨w.heap.size, 3, none⟩ = false := frozen_of_row wr _ 3 _ _ hst'.h0
      have HS4 := hid (set4 (y0 := .int .u64 S.a) (y1 := .int .u64 S.b) (y2 := .int .u64 S.c) (y3 := .int .u64 S.d) hst'.h0)
      have HFR := hid hst'.fr
      clear hkq hst hst' hS hk'
      go_wp2_with fail
      obtain ⟨h4, f4⟩ := HS4.out
      obtain ⟨wz, hwz⟩ : ∃ wz, (((wr.setCell ⟨w.heap.size, 0, none⟩ (.int .u64 S.a)).setCell ⟨w.heap.size, 1, none⟩ (.int .u64 S.b)).setCell ⟨w.heap.size, 2, none⟩ (.int .u64 S.c)).setCell ⟨w.heap.size, 3, none⟩ (.int .u64 S.d) = wz := ⟨_, rfl⟩
      rw [hwz] at h4 f4 ⊢
      have hfz : Frm [] w wz := HFR.out.trans f4 (fun i hi hl => by simp at hi; omega)
      have g0 : wz.cell? ⟨w.heap.size, 0, none⟩ = some (.int .u64 S.a) := by rw [cell_of_row wz _ _ _ _ _ h4]; rfl
      have g1 : wz.cell? ⟨w.heap.size, 1, none⟩ = some (.int .u64 S.b) := by rw [cell_of_row wz _ _ _ _ _ h4]; rfl
      have g2 : wz.cell? ⟨w.heap.size, 2, none⟩ = some (.int .u64 S.c) := by rw [cell_of_row wz _ _ _ _ _ h4]; rfl
      have g3 : wz.cell? ⟨w.heap.size, 3, none⟩ = some (.int .u64 S.d) := by rw [cell_of_row wz _ _ _ _ _ h4]; rfl
      refine bodyPost_ret (v := .agg #[.int .u64 S.a, .int .u64 S.b, .int .u64 S.c, .int .u64 S.d]) (by simp [results, Tryd.results61, go_sem, g0, g1, g2, g3]) rfl ⟨?_, hfz⟩
      rw [HS.out]
      rfl
end
section
open Go.RowKit
set_option maxRecDepth 100000

def lowD (a b c d : Int) : Int := bits .or .u32 (bits .or .u32 (bits .or .u32 (a * 16777216) (b * 65536)) (c * 256)) d
theorem or_nat {a b : Int} (ha : 0 ≤ a ∧ a < 4294967296) (hb : 0 ≤ b ∧ b < 4294967296) : ∃ x y : Nat, a = (x : Int) ∧ b = (y : Int) ∧ x < 4294967296 ∧ y < 4294967296 ∧ bits .or .u32 a b = ((x ||| y : Nat) : Int) ∧ x ||| y < 4294967296 :=
  ⟨a.toNat, b.toNat, by omega, by omega, by omega, by omega, u32_or a b ha.1 ha.2 hb.1 hb.2, Nat.or_lt_two_pow (n := 32) (by omega) (by omega)⟩
theorem lowD_eq (a b c d : Int) (ha : 0 ≤ a ∧ a < 256) (hb : 0 ≤ b ∧ b < 256) (hc : 0 ≤ c ∧ c < 256) (hd : 0 ≤ d ∧ d < 256) : lowD a b c d = lowW d c b a := by
  unfold lowD lowW
  obtain ⟨x, y, e1, e2, l1, l2, h1, g1⟩ := or_nat (a := a * 16777216) (b := b * 65536) (by omega) (by omega)
  obtain ⟨x2, y2, f1, f2, _, _, h2, g2⟩ := or_nat (a := ((x ||| y : Nat) : Int)) (b := c * 256) (by omega) (by omega)
  obtain ⟨x3, y3, k1, k2, _, _, h3, g3⟩ := or_nat (a := ((x2 ||| y2 : Nat) : Int)) (b := d) (by omega) (by omega)
  rw [h1, h2, h3]
  rw [e1, e2, f2, k2]
  rw [u32_or_nat y3 y2 (by omega) (by omega), u32_or_nat (y3 ||| y2) y (Nat.or_lt_two_pow (n := 32) (by omega) (by omega)) (by omega), u32_or_nat (y3 ||| y2 ||| y) x (Nat.or_lt_two_pow (n := 32) (Nat.or_lt_two_pow (n := 32) (by omega) (by omega)) (by omega)) (by omega)]
  have hx2 : x2 = x ||| y := by omega
  have hx3 : x3 = x2 ||| y2 := by omega
  subst hx3
  subst hx2
  congr 1
  simp only [Nat.or_assoc]
  rw [Nat.or_comm, Nat.or_comm y, Nat.or_assoc, Nat.or_comm y2, Nat.or_assoc]
/-- The words of a call of the document's words. -/
structure StW (w0 w : World) (y : Nat) (cur : List Int) : Prop where
  h2 : w.heap[y]? = some (.cells (wv cur).toArray 120 (0, 0))
  len : cur.length = 64
  hy : w0.heap.size ≤ y
  fr : Frm [] w0 w
theorem StW.drew {w0 w : World} {y : Nat} {cur : List Int} (h : StW w0 w y cur) : StW w0 w.drew y cur := ⟨h.h2, h.len, h.hy, h.fr.drew⟩
theorem StW.set {w0 w : World} {y : Nat} {cur : List Int} (h : StW w0 w y cur) (t : Nat) (z : Int) : StW w0 (w.setCell ⟨y, t, none⟩ (.int .u32 z)) y (cur.set t z) := by
  have f : Frm [y] w (w.setCell ⟨y, t, none⟩ (.int .u32 z)) := (Frm.refl _ _).setCell _ _ (by simp)
  have e := h.hy
  refine ⟨?_, by simp [h.len], e, h.fr.trans f (fun i hi hl => by simp at hi; omega)⟩
  rw [heap_setCell_same w y t _ _ _ h.h2]
  congr 2
  apply Array.ext'
  simp [wv, List.map_set]
theorem StW.at {w0 w : World} {y : Nat} {cur : List Int} (h : StW w0 w y cur) (t : Nat) (ht : t < 64) : w.cell? ⟨y, t, none⟩ = some (.int .u32 (zA cur t)) := by
  rw [cell_of_row w _ _ _ _ _ h.h2]
  have := h.len
  simp [wv, zA, List.getD_eq_getElem?_getD, show t < cur.length by omega]
theorem StW.free {w0 w : World} {y : Nat} {cur : List Int} (h : StW w0 w y cur) (t : Nat) : w.frozen? ⟨y, t, none⟩ = false := frozen_of_row w y t _ _ h.h2
theorem make_words (w : World) : (Instr.makeSlice 123 (.int .i64 64) (.int .i64 64)).run Tryd.prog w = .ok (.slice (some ⟨w.heap.size, 0, none⟩) 64 64) (w.alloc (.cells (wv (List.replicate 64 0)).toArray 120)) := by
  have hI : (Tryd.prog.info? 120).map (fun i => (i.zero, i.size, i.bytes)) = some (some (.int .u32 0), 1, 4) := by kernel_rfl
  obtain ⟨i, hi, h⟩ := Option.map_eq_some_iff.1 hI
  simp only [Prod.mk.injEq] at h
  obtain ⟨hz, h1, h2⟩ := h
  have hr := run_make (P := Tryd.prog) w 123 120 i (.int .u32 0) Tryd.underlying123 hi hz .i64 .i64 64 64 (by omega) (by omega) (by rw [h2]; omega) (by omega)
  rw [h1, show (Value.int .u32 0).cells = #[Value.int .u32 0] from rfl] at hr
  have e : madeCells #[Value.int .u32 0] 64 = (wv (List.replicate 64 0)).toArray := by kernel_rfl
  simpa [e] using hr
set_option maxHeartbeats 6400000 in
theorem words_any (p : Option Addr) (n c : Nat) (zs : List Int) (w : World) (hn : zs.length = n) (h64 : n = 64) (hrd : Rd w p zs) (hb : ∀ z ∈ zs, 0 ≤ z ∧ z < 256) :
    Calls Tryd.prog 82 #[.slice p n c] w fun e w' => ∃ y, e = .returned (.slice (some ⟨y, 0, none⟩) 64 64) ∧ StW w w' y (wB (wA zs 16) 48) := by
  have HRD := hid hrd
  have HZB := hid hb
  have HN := hid hn
  have hnn : 64 ≤ n ∧ n ≤ 64 := by omega
  clear hrd hb hn h64
  have hmk := make_words w
  have HS0 : Hid (StW w (w.alloc (.cells (wv (List.replicate 64 0)).toArray 120)) w.heap.size (wA zs 0)) := hid ⟨heap_alloc_new _ _, by simp [wA], Nat.le_refl _, (Frm.refl _ _).alloc _⟩
  obtain ⟨wm, hwm⟩ : ∃ wm, w.alloc (.cells (wv (List.replicate 64 0)).toArray 120) = wm := ⟨_, rfl⟩
  rw [hwm] at hmk HS0
  clear hwm
  obtain ⟨xb, hxb⟩ : ∃ x, w.heap.size = x := ⟨_, rfl⟩
  rw [hxb] at hmk HS0
  clear hxb
  go_enter Tryd.func82, Tryd.ntmps82
  go_wp2_with fail
  go_loopw [4] (fun i wr => ∃ t : Nat, t ≤ 16 ∧ i = .int .i64 t ∧ Hid (StW w wr xb (wA zs t))) (fun i _ => 16 - (intOf i).toNat)
  case atStart => exact ⟨0, by omega, rfl, HS0⟩
  case round =>
    clear HS0
    obtain ⟨t, ht, rfl, hst⟩ := hrel
    by_cases hlt : t < 16
    · have rd : ∀ i, i < n → ∃ g o, p = some ⟨g, o, none⟩ ∧ wr.cell? ⟨g, o + i, none⟩ = some (.int .u8 (zA zs i)) ∧ (0 ≤ zA zs i ∧ zA zs i < 256) := fun i hi => by
        obtain ⟨g, o, e1, e2⟩ := rd_byte (i := i) (HRD.out.kept hst.out.fr (by simp)) (by rw [HN.out]; exact hi)
        refine ⟨g, o, e1, e2, HZB.out _ ?_⟩
        unfold zA
        rw [List.getD_eq_getElem?_getD, List.getElem?_eq_getElem (by rw [HN.out]; exact hi)]
        exact List.getElem_mem _
      obtain ⟨g, o, rfl, c0, b0⟩ := rd (4 * t) (by omega)
      obtain ⟨_, _, e1, c1, b1⟩ := rd (4 * t + 1) (by omega)
      obtain ⟨_, _, e2, c2, b2⟩ := rd (4 * t + 2) (by omega)
      obtain ⟨_, _, e3, c3, b3⟩ := rd (4 * t + 3) (by omega)
      simp only [Option.some.injEq, Addr.mk.injEq, and_true] at e1 e2 e3
      obtain ⟨rfl, rfl⟩ := e1
      obtain ⟨rfl, rfl⟩ := e2
      obtain ⟨rfl, rfl⟩ := e3
      have hnx : (wA zs t).set t (lowW (zA zs (4 * t + 3)) (zA zs (4 * t + 2)) (zA zs (4 * t + 1)) (zA zs (4 * t))) = wA zs (t + 1) := rfl
      rw [← lowD_eq _ _ _ _ b0 b1 b2 b3] at hnx
      have HNX := hid hnx
      clear hnx
      generalize zA zs (4 * t) = y0 at c0 b0 HNX
      generalize zA zs (4 * t + 1) = y1 at c1 b1 HNX
      generalize zA zs (4 * t + 2) = y2 at c2 b2 HNX
      generalize zA zs (4 * t + 3) = y3 at c3 b3 HNX
      obtain ⟨b00, b01⟩ := b0
      obtain ⟨b10, b11⟩ := b1
      obtain ⟨b20, b21⟩ := b2
      obtain ⟨b30, b31⟩ := b3
      have cw := hst.out.at t (by omega)
      have fz := hst.out.free t
      have s0 : (0 : Int) ≤ (t : Int) := by omega
      have s1 : (t : Int) < 64 := by omega
      have s2 : (4 * (t : Int)).toNat = 4 * t := by omega
      have s3 : (4 * (t : Int) + 1).toNat = 4 * t + 1 := by omega
      have s4 : (4 * (t : Int) + 2).toNat = 4 * t + 2 := by omega
      have s5 : (4 * (t : Int) + 3).toNat = 4 * t + 3 := by omega
      have i0 : 4 * (t : Int) < (n : Int) := by omega
      have i1 : 4 * (t : Int) + 1 < (n : Int) := by omega
      have i2 : 4 * (t : Int) + 2 < (n : Int) := by omega
      have i3 : 4 * (t : Int) + 3 < (n : Int) := by omega
      have j0 : (0 : Int) ≤ 4 * (t : Int) := by omega
      have j1 : (0 : Int) ≤ 4 * (t : Int) + 1 := by omega
      have j2 : (0 : Int) ≤ 4 * (t : Int) + 2 := by omega
      have j3 : (0 : Int) ≤ 4 * (t : Int) + 3 := by omega
      have k0 : IntKind.i64.wrap (4 * (t : Int)) = 4 * (t : Int) := IntWalk.i64_in _ (by omega)
      have k1 : IntKind.i64.wrap (4 * (t : Int) + 1) = 4 * (t : Int) + 1 := IntWalk.i64_in _ (by omega)
      have k2 : IntKind.i64.wrap (4 * (t : Int) + 2) = 4 * (t : Int) + 2 := IntWalk.i64_in _ (by omega)
      have k3 : IntKind.i64.wrap (4 * (t : Int) + 3) = 4 * (t : Int) + 3 := IntWalk.i64_in _ (by omega)
      clear rd
      go_wp2_with fail
      go_still_tail 36, (by kernel_rfl)
      change wpList _ _ _ _ _ wr.drew
      have HS4 := hid hst.out.drew
      obtain ⟨w4, hw4⟩ : ∃ w4, wr.drew = w4 := ⟨_, rfl⟩
      have cw4 : w4.cell? ⟨xb, t, none⟩ = some (.int .u32 (zA (wA zs t) t)) := by rw [← hw4]; exact cw
      have fz4 : w4.frozen? ⟨xb, t, none⟩ = false := by rw [← hw4]; exact fz
      rw [hw4] at HS4 ⊢
      clear hw4 c0 c1 c2 c3 cw fz
      go_wp2_with fail
      go_roundw
      case rel => exact ⟨t + 1, by omega, by go_num, hid (by have h := HS4.out.set t (lowD y0 y1 y2 y3); rwa [HNX.out] at h)⟩
      case measure => simp [intOf]; omega
    · obtain rfl : t = 16 := by omega
      clear hlt
      rw [show ((16 : Nat) : Int) = 16 from rfl]
      go_wp2_with fail
      go_loopw [5] (fun i wr => ∃ t u : Nat, Hid (t = 16 + u) ∧ 16 ≤ t ∧ t ≤ 64 ∧ i = .int .i64 t ∧ Hid (StW w wr xb (wB (wA zs 16) u))) (fun i _ => 64 - (intOf i).toNat)
      case atStart => exact ⟨16, 0, hid rfl, by omega, by omega, rfl, hst⟩
      case round =>
        clear hst
        obtain ⟨t, u, htu, ht6, ht, rfl, hst⟩ := hrel
        by_cases hlt : t < 64
        · have hnx : (wB (wA zs 16) u).set t (wN (wB (wA zs 16) u) t) = wB (wA zs 16) (u + 1) := by rw [htu.out]; rfl
          have HNX := hid hnx
          obtain ⟨cur, hcur⟩ : ∃ cur, wB (wA zs 16) u = cur := ⟨_, rfl⟩
          rw [hcur] at hst HNX
          have HC : Hid (∀ w', StW w w' xb cur → w'.cell? ⟨xb, t - 16, none⟩ = some (.int .u32 (zA cur (t - 16))) ∧ w'.cell? ⟨xb, t - 15, none⟩ = some (.int .u32 (zA cur (t - 15))) ∧ w'.cell? ⟨xb, t - 7, none⟩ = some (.int .u32 (zA cur (t - 7))) ∧ w'.cell? ⟨xb, t - 2, none⟩ = some (.int .u32 (zA cur (t - 2))) ∧ w'.cell? ⟨xb, t, none⟩ = some (.int .u32 (zA cur t)) ∧ w'.frozen? ⟨xb, t, none⟩ = false) := hid (fun w' h => ⟨h.at _ (by omega), h.at _ (by omega), h.at _ (by omega), h.at _ (by omega), h.at _ (by omega), h.free t⟩)
          unfold wN sg0 sg1 at HNX
          generalize zA cur (t - 16) = x16 at HC HNX
          generalize zA cur (t - 15) = x15 at HC HNX
          generalize zA cur (t - 7) = x7 at HC HNX
          generalize zA cur (t - 2) = x2 at HC HNX
          generalize zA cur t = xt at HC
          obtain ⟨c16, c15, c7, c2, cw, fz⟩ := HC.out wr hst.out
          have k16 : IntKind.i64.wrap ((t : Int) - 16) = (t : Int) - 16 := IntWalk.i64_in _ (by omega)
          have k15 : IntKind.i64.wrap ((t : Int) - 15) = (t : Int) - 15 := IntWalk.i64_in _ (by omega)
          have k7 : IntKind.i64.wrap ((t : Int) - 7) = (t : Int) - 7 := IntWalk.i64_in _ (by omega)
          have k2 : IntKind.i64.wrap ((t : Int) - 2) = (t : Int) - 2 := IntWalk.i64_in _ (by omega)
          have n16 : ((t : Int) - 16).toNat = t - 16 := by omega
          have n15 : ((t : Int) - 15).toNat = t - 15 := by omega
          have n7 : ((t : Int) - 7).toNat = t - 7 := by omega
          have n2 : ((t : Int) - 2).toNat = t - 2 := by omega
          have a16 : (0 : Int) ≤ (t : Int) - 16 := by omega
          have a15 : (0 : Int) ≤ (t : Int) - 15 := by omega
          have a7 : (0 : Int) ≤ (t : Int) - 7 := by omega
          have a2 : (0 : Int) ≤ (t : Int) - 2 := by omega
          have b16 : (t : Int) - 16 < 64 := by omega
          have b15 : (t : Int) - 15 < 64 := by omega
          have b7 : (t : Int) - 7 < 64 := by omega
          have b2 : (t : Int) - 2 < 64 := by omega
          have s0 : (0 : Int) ≤ (t : Int) := by omega
          have s1 : (t : Int) < 64 := by omega
          have q16 : (16 : Int) ≤ (t : Int) := by omega
          have q7 : (7 : Int) ≤ (t : Int) := by omega
          clear hnx hcur
          go_wp2_with fail
          go_still_tail 32, (by kernel_rfl)
          refine wpStill_step (fun K hK => ?_)
          go_simp
          refine ⟨_, turned_all _ _ rfl _, hK _ ?_⟩
          clear hK K
          repeat still_step
          refine wpStill_step (fun K hK => ?_)
          go_simp
          refine ⟨_, turned_all _ _ rfl _, hK _ ?_⟩
          clear hK K
          repeat still_step
          refine wpStill_step (fun K hK => ?_)
          go_simp
          refine ⟨_, turned_all _ _ rfl _, hK _ ?_⟩
          clear hK K
          repeat still_step
          refine wpStill_step (fun K hK => ?_)
          go_simp
          refine ⟨_, turned_all _ _ rfl _, hK _ ?_⟩
          clear hK K
          repeat still_step
          refine wpStill_nil ?_
          change wpList _ _ _ _ _ wr.drew
          have HS7 := hid (hst.out.drew)
          obtain ⟨w7, hw7⟩ : ∃ w7, wr.drew = w7 := ⟨_, rfl⟩
          rw [hw7] at HS7 ⊢
          clear c16 c15 c7 c2 cw fz hw7 hst
          obtain ⟨_, _, _, _, cw, fz⟩ := HC.out w7 HS7.out
          go_wp2_with fail
          go_roundw
          case rel => exact ⟨t + 1, u + 1, hid (by have := htu.out; omega), by omega, by omega, by go_num, hid (by rw [← HNX.out]; exact HS7.out.set t _)⟩
          case measure => simp [intOf]; omega
        · obtain rfl : t = 64 := by omega
          clear hlt
          obtain rfl : u = 48 := by have := htu.out; omega
          rw [show ((64 : Nat) : Int) = 64 from rfl]
          go_wp2_with fail
          go_returns
          exact ⟨xb, rfl, hst.out⟩
end
end Go.Proofs.YtignoocdeghiaaaDoor
