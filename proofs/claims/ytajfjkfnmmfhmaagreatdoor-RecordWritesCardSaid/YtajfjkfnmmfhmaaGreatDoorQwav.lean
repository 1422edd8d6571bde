/- Records, the document's side: a seal as bytes. Plain facts on Fletcher's sum: words, pieces, a byte turned. The document's Fletcher. The document's words. -/
import Derived.Test.YtajfjkfnmmfhmaaGreatDoorQwag
import Derived.Test.YtajfjkfnmmfhmaaGreatDoorQwaq
import Derived.Test.YtajfjkfnmmfhmaaGreatDoorQwad
import Derived.Test.YtajfjkfnmmfhmaaGreatDoorQwaf
namespace Go.Proofs.YtajfjkfnmmfhmaaGreatDoor
section
open Go.RowKit Go.Lib
set_option maxRecDepth 100000
def selV (s : S4) : List Int := [s.a, s.b, s.c, s.d]
theorem selV_bd {s : S4} (h : s.Bd) (t : Nat) : 0 ≤ (selV s).getD t 0 ∧ (selV s).getD t 0 < 18446744073709551616 := by
  unfold selV
  match t with
  | 0 => exact h.a
  | 1 => exact h.b
  | 2 => exact h.c
  | 3 => exact h.d
  | t + 4 => exact ⟨by simp, by simp⟩
theorem selV_all (s : S4) : sumT (selV s) 4 = selL s := sumT_all s.a s.b s.c s.d
set_option maxHeartbeats 3200000 in
theorem refSealBytes_any (s : S4) (hs : s.Bd) (w : World) :
    Calls Tryz.prog 38 #[.agg s.arr] w fun e w' => ∃ p c, e = .returned (.slice p 32 c) ∧ BufF w none w' p 32 c (selL s) := by
  obtain ⟨PO, hPO⟩ : ∃ PO : Ending → World → Prop, (fun e w' => ∃ p c, e = .returned (.slice p 32 c) ∧ BufF w none w' p 32 c (selL s)) = PO := ⟨_, rfl⟩
  rw [hPO]
  have HP : Hid (∀ p c w', BufF w none w' p 32 c (selL s) → PO (.returned (.slice p 32 c)) w') := hid (fun p c w' h => by rw [← hPO]; exact ⟨p, c, rfl, h⟩)
  have hrow := heap_alloc_new w (.cells s.arr 29)
  have hfa : Frm [] w (w.alloc (.cells s.arr 29)) := (Frm.refl _ _).alloc _
  obtain ⟨wa, hwa⟩ : ∃ z, w.alloc (.cells s.arr 29) = z := ⟨_, rfl⟩
  obtain ⟨ba, hba⟩ : ∃ z, w.heap.size = z := ⟨_, rfl⟩
  rw [hwa, hba] at hrow
  rw [hwa] at hfa
  have hrw2 := heap_alloc_new wa (.cells s.arr 27)
  have hfb : Frm [] wa (wa.alloc (.cells s.arr 27)) := (Frm.refl _ _).alloc _
  obtain ⟨wb, hwb⟩ : ∃ z, wa.alloc (.cells s.arr 27) = z := ⟨_, rfl⟩
  obtain ⟨bb, hbb⟩ : ∃ z, wa.heap.size = z := ⟨_, rfl⟩
  rw [hwb, hbb] at hrw2
  rw [hwb] at hfb
  have HEL : Hid (∀ V, Frm [] wb V → ∀ t, t < 4 → V.cell? ⟨bb, t, none⟩ = some (.int .u64 ((selV s).getD t 0))) := hid (fun V hf t ht => by
    rw [cell_of_row _ _ _ _ _ _ (hf.heap hrw2 (by simp))]
    have h4 : t = 0 ∨ t = 1 ∨ t = 2 ∨ t = 3 := by omega
    rcases h4 with rfl | rfl | rfl | rfl <;> rfl)
  have HBD : Hid (∀ t, 0 ≤ (selV s).getD t 0 ∧ (selV s).getD t 0 < 18446744073709551616) := hid (selV_bd hs)
  have HFB : Hid (Frm [] w wb) := hid (hfa.trans hfb (by simp))
  have HAL : Hid (sumT (selV s) 4 = selL s) := hid (selV_all s)
  have HSU : Hid (∀ t, sumT (selV s) (t + 1) = sumT (selV s) t ++ le ((selV s).getD t 0) 8) := hid (fun t => rfl)
  have HB0 : Hid (BufF w none wb none 0 0 []) := hid ⟨Own.nil _ _, rfl, HFB.out.mono (by simp), by simp [blk]⟩
  have HWA := hid hwa
  have HWB := hid hwb
  have HBA := hid hba
  have HBB := hid hbb
  have x0 : wa.cell? ⟨ba, 0, none⟩ = some (.int .u64 s.a) := by rw [cell_of_row _ _ _ _ _ _ hrow]; rfl
  have x1 : wa.cell? ⟨ba, 1, none⟩ = some (.int .u64 s.b) := by rw [cell_of_row _ _ _ _ _ _ hrow]; rfl
  have x2 : wa.cell? ⟨ba, 2, none⟩ = some (.int .u64 s.c) := by rw [cell_of_row _ _ _ _ _ _ hrow]; rfl
  have x3 : wa.cell? ⟨ba, 3, none⟩ = some (.int .u64 s.d) := by rw [cell_of_row _ _ _ _ _ _ hrow]; rfl
  obtain ⟨vs, hvs⟩ : ∃ z, selV s = z := ⟨_, rfl⟩
  rw [hvs] at HEL HBD HAL HSU
  clear hPO hrow hfa hwa hba hrw2 hfb hwb hbb hs hvs
  obtain ⟨s0, s1, s2, s3⟩ := s
  unfold S4.arr at HWA HWB ⊢
  simp only at HWA HWB x0 x1 x2 x3 ⊢
  go_enter Tryz.func38, Tryz.ntmps38
  go_upto_region 2 with fail
  first | rw [HWA.out] | skip
  first | rw [HBA.out] | skip
  go_upto_region 3 with fail
  first | rw [HWB.out] | skip
  first | rw [HBB.out] | skip
  clear x0 x1 x2 x3 HWA HWB HBA HBB
  go_wp2_with fail
  go_loopw [3, 5] (fun b i wr => ∃ (t : Nat) (p : Option Addr) (n c : Nat), t ≤ 4 ∧ i = .int .i64 (t : Int) ∧ b = .slice p n c ∧ n ≤ 8 * t ∧ Hid (BufF wb none wr p n c (sumT vs t))) (fun _ i _ => 4 - (intOf i).toNat)
  case atStart => exact ⟨0, none, 0, 0, Nat.zero_le _, rfl, rfl, Nat.le_refl _, hid (BufF.self (Own.nil _ _) rfl)⟩
  case round =>
    obtain ⟨t, p, n, c, ht, rfl, rfl, hn, hb⟩ := hrel
    have HB := hid hb.out
    clear hb
    by_cases hlt : t < 4
    case neg =>
      obtain rfl : t = 4 := by omega
      have hn32 : n = 32 := by rw [← HB.out.len, HAL.out, selL_len]
      subst hn32
      go_wp2_with fail
      first | go_returns | skip
      refine HP.out _ _ _ ?_
      have hB := HB0.out.trans HB.out
      rw [HAL.out] at hB
      exact hB
    have t1 : (t : Int) < 4 := by omega
    have z0 := HEL.out wr HB.out.nil.1 t hlt
    have hv := HBD.out t
    have HSX := hid (HSU.out t)
    obtain ⟨v, hvv⟩ : ∃ x, vs.getD t 0 = x := ⟨_, rfl⟩
    rw [hvv] at z0 hv HSX
    have HV := hid hv
    clear hvv hv
    go_upto_region 8 with fail
    clear z0
    obtain ⟨zs, hzs⟩ : ∃ z, sumT vs t = z := ⟨_, rfl⟩
    rw [hzs] at HB HSX
    have HB1 := hid HB.out
    clear hzs HB
    go_loopw [3, 6, 7] (fun b nv i wx => ∃ (j : Nat) (q : Option Addr) (d : Nat), j ≤ 8 ∧ i = .int .i64 (j : Int) ∧ nv = .int .u64 (v / 2 ^ (8 * j)) ∧ b = .slice q (n + j) d ∧ Hid (BufF wb none wx q (n + j) d (zs ++ le v j))) (fun _ _ i _ => 8 - (intOf i).toNat)
    case atStart => exact ⟨0, p, c, Nat.zero_le _, rfl, by simp, rfl, hid (by rw [show zs ++ le v 0 = zs by simp [le]]; exact HB1.out)⟩
    case round =>
      obtain ⟨j, q, d, hj, rfl, rfl, rfl, hb⟩ := hrel
      have hv := HV.out
      have hq : 0 ≤ v / 2 ^ (8 * j) ∧ v / 2 ^ (8 * j) < 18446744073709551616 := by
        refine ⟨Int.ediv_nonneg hv.1 (Int.pow_nonneg (by decide)), ?_⟩
        exact Int.lt_of_le_of_lt (Int.ediv_le_self _ hv.1) hv.2
      have hsucc : v / 2 ^ (8 * (j + 1)) = v / 2 ^ (8 * j) / 256 := by
        rw [Int.ediv_ediv_of_nonneg (Int.pow_nonneg (by decide)), Nat.mul_add, Int.pow_add]; rfl
      have HS := hid hsucc
      have HLE := hid (le_succ v j)
      have HBJ := hid hb.out
      clear hsucc hv hb
      obtain ⟨x, hxx⟩ : ∃ x, v / 2 ^ (8 * j) = x := ⟨_, rfl⟩
      rw [hxx] at hq HS HLE ⊢
      clear hxx
      obtain ⟨hq0, hq1⟩ := hq
      by_cases hlt8 : j < 8
      · have hrd : Rd (wr.alloc (.cells #[.int .u8 (x % 256)] 5)) (some ⟨wr.heap.size, 0, none⟩) [x % 256] :=
          (own_of_block (E := 5) (zs := [x % 256]) (heap_alloc_new wr _) (by simp [maxLen])).rd
        have HRD := hid hrd
        have HFA := hid ((Frm.refl [] wr).alloc (.cells #[.int .u8 (x % 256)] 5))
        have HO := hid (HBJ.out.own.kept HFA.out (by simp))
        have htm : Int.tmod x 256 = x % 256 := Int.tmod_eq_emod_of_nonneg hq0
        have htd : Int.tdiv x 256 = x / 256 := Int.tdiv_eq_ediv_of_nonneg hq0
        clear hrd
        go_wp2_with (at_builtin; refine wpList_appB rfl _ _ 24 rfl 5 Tryz.underlying24 infoE q _ d (zs ++ le v j) rfl HBJ.out.len.symm (by rw [HBJ.out.len]; exact HO.out) (some ⟨wr.heap.size, 0, none⟩) 1 1 [x % 256] rfl rfl (by simp) HRD.out (by rw [HBJ.out.len]; simp; omega) ?_)
        intro xs p2 c2 w2 hxs ho2 hf2 hfr2
        have hxe : xs = zs ++ le v (j + 1) := by rw [hxs.out, HLE.out]
        have hxl : xs.length = n + (j + 1) := by
          have h1 := HBJ.out.len
          rw [List.length_append, le_length] at h1
          rw [hxe, List.length_append, le_length]; omega
        rw [hxl]
        have HXL := hid hxl
        have HXE := hid hxe
        clear hxl hxe
        go_wp2_with fail
        go_roundw
        case rel =>
          refine ⟨j + 1, p2, c2, by omega, by go_num, by rw [HS.out], rfl, hid ?_⟩
          have h := ho2.out
          rw [HXL.out, HXE.out] at h
          exact HBJ.out.trans (BufF.pre HFA.out ⟨h, by rw [← HXE.out, HXL.out], hf2.out, fun i hi => (hfr2.out i hi).imp id (fun h => by simpa using h)⟩)
        case measure => first | (simp [intOf]; done) | (simp [intOf]; omega)
      · obtain rfl : j = 8 := by omega
        go_wp2_with fail
        go_roundw
        case rel => exact ⟨t + 1, q, n + 8, d, by omega, by go_num, rfl, by omega, hid (by rw [HSX.out]; exact HBJ.out)⟩
        case measure => first | (simp [intOf]; done) | (simp [intOf]; omega)
end
section
open Go.RowKit
set_option maxRecDepth 100000
theorem lowW_val {a b c d : Int} (ha : 0 ≤ a ∧ a < 256) (hb : 0 ≤ b ∧ b < 256) (hc : 0 ≤ c ∧ c < 256) (hd : 0 ≤ d ∧ d < 256) : lowW a b c d = a + 256 * b + 65536 * c + 16777216 * d := by
  obtain ⟨a, rfl⟩ : ∃ n : Nat, a = n := ⟨a.toNat, by omega⟩
  obtain ⟨b, rfl⟩ : ∃ n : Nat, b = n := ⟨b.toNat, by omega⟩
  obtain ⟨c, rfl⟩ : ∃ n : Nat, c = n := ⟨c.toNat, by omega⟩
  obtain ⟨d, rfl⟩ : ∃ n : Nat, d = n := ⟨d.toNat, by omega⟩
  unfold lowW
  have e1 : (b : Int) * 256 = ((2 ^ 8 * b : Nat) : Int) := by omega
  have e2 : (c : Int) * 65536 = ((2 ^ 16 * c : Nat) : Int) := by omega
  have e3 : (d : Int) * 16777216 = ((2 ^ 24 * d : Nat) : Int) := by omega
  have f1 : a ||| 2 ^ 8 * b = 2 ^ 8 * b + a := by rw [Nat.or_comm, ← Nat.two_pow_add_eq_or_of_lt (by omega)]
  have f2 : (2 ^ 8 * b + a) ||| 2 ^ 16 * c = 2 ^ 16 * c + (2 ^ 8 * b + a) := by rw [Nat.or_comm, ← Nat.two_pow_add_eq_or_of_lt (by omega)]
  have f3 : (2 ^ 16 * c + (2 ^ 8 * b + a)) ||| 2 ^ 24 * d = 2 ^ 24 * d + (2 ^ 16 * c + (2 ^ 8 * b + a)) := by rw [Nat.or_comm, ← Nat.two_pow_add_eq_or_of_lt (by omega)]
  rw [e1, u32_or_nat _ _ (by omega) (by omega), f1, e2, u32_or_nat _ _ (by omega) (by omega), f2, e3, u32_or_nat _ _ (by omega) (by omega), f3]
  omega
/-- The words of bytes, and their sums. -/
def wv4 (zs : List Int) (k : Nat) : Int := lowW (zA zs (4 * k)) (zA zs (4 * k + 1)) (zA zs (4 * k + 2)) (zA zs (4 * k + 3))
def sA (zs : List Int) : Nat → Int
  | 0 => 0
  | m + 1 => sA zs m + wv4 zs m
end
section
open Go.RowKit
set_option maxRecDepth 100000
/-- The word behind so many rounds of the inner loop. -/
def wdD (zs : List Int) (i : Nat) : Nat → Int
  | 0 => 0
  | t + 1 => 256 * wdD zs i t + zA zs (i + (3 - t))
theorem wdD_bd {zs : List Int} (hb : ∀ i, 0 ≤ zA zs i ∧ zA zs i < 256) (i t : Nat) : 0 ≤ wdD zs i t ∧ wdD zs i t < 256 ^ t := by
  induction t with
  | zero => simp [wdD]
  | succ t ih =>
    have h := hb (i + (3 - t))
    rw [wdD, Int.pow_succ]
    omega
theorem wdD_four {zs : List Int} (hb : ∀ i, 0 ≤ zA zs i ∧ zA zs i < 256) (i : Nat) : wdD zs i 4 = lowW (zA zs i) (zA zs (i + 1)) (zA zs (i + 2)) (zA zs (i + 3)) := by
  rw [lowW_val (hb _) (hb _) (hb _) (hb _)]
  simp only [wdD, Nat.sub_zero, Nat.sub_self, Nat.add_zero, show 3 - 1 = 2 from rfl, show 3 - 2 = 1 from rfl]
  omega
theorem zA_out {zs : List Int} {i : Nat} (h : zs.length ≤ i) : zA zs i = 0 := by
  unfold zA
  rw [List.getD_eq_getElem?_getD, List.getElem?_eq_none h]
  rfl
theorem fl_up (zs : List Int) : flW Z4 zs ((zs.length + 3) / 4) = fletch zs := by
  unfold fletch
  by_cases h : zs.length % 4 = 0
  · rw [if_pos h, show (zs.length + 3) / 4 = zs.length / 4 by omega]
  · rw [if_neg h, show (zs.length + 3) / 4 = zs.length / 4 + 1 by omega, flW, zA_out (i := 4 * (zs.length / 4) + 3) (by omega)]
/-- The blocks inside the document's Fletcher: the result, the sum. -/
structure StF (w0 w : World) (s : S4) : Prop where
  h0 : w.heap[w0.heap.size]? = some (.cells #[.int .u64 0, .int .u64 0, .int .u64 0, .int .u64 0] 29 (0, 0))
  h1 : w.heap[w0.heap.size + 1]? = some (.cells s.arr 29 (0, 0))
  fr : Frm [] w0 w
set_option maxHeartbeats 3200000 in
theorem refFl_any (p : Option Addr) (n c : Nat) (zs : List Int) (w : World) (hn : zs.length = n) (hnb : n ≤ 9223372036854775790) (hrd : Rd w p zs) (hb : ∀ z ∈ zs, 0 ≤ z ∧ z < 256) :
    Calls Tryz.prog 84 #[.slice p n c] w fun e w' => e = .returned (.agg (fletch zs).arr) ∧ Frm [] w w' := by
  have HRD := hid hrd
  have HN := hid hn
  have HZ := hid (zA_bd hb)
  have HU := hid (fl_up zs)
  rw [hn] at HU
  have hfa : Frm [] w (w.alloc (.cells #[.int .u64 0, .int .u64 0, .int .u64 0, .int .u64 0] 29)) := (Frm.refl _ _).alloc _
  have hfb : Frm [] (w.alloc (.cells #[.int .u64 0, .int .u64 0, .int .u64 0, .int .u64 0] 29)) ((w.alloc (.cells #[.int .u64 0, .int .u64 0, .int .u64 0, .int .u64 0] 29)).alloc (.cells #[.int .u64 0, .int .u64 0, .int .u64 0, .int .u64 0] 29)) := (Frm.refl _ _).alloc _
  have HS0 : Hid (StF w ((w.alloc (.cells #[.int .u64 0, .int .u64 0, .int .u64 0, .int .u64 0] 29)).alloc (.cells #[.int .u64 0, .int .u64 0, .int .u64 0, .int .u64 0] 29)) (flW Z4 zs 0)) := hid ⟨hfb.heap (heap_alloc_new _ _) (by simp), heap_alloc_to _ _ (by simp), hfa.trans hfb (by simp)⟩
  clear hrd hb hn hfa hfb
  go_enter Tryz.func84, Tryz.ntmps84
  go_wp2_with fail
  go_loopw [4] (fun i wr => ∃ k : Nat, Hid (4 * k ≤ n + 3) ∧ i = .int .i64 (4 * (k : Int)) ∧ Hid (StF w wr (flW Z4 zs k))) (fun i _ => n + 3 - (intOf i).toNat)
  case atStart => exact ⟨0, hid (by omega), rfl, HS0⟩
  case round =>
    clear HS0
    obtain ⟨k, hk, rfl, hst⟩ := hrel
    have hk' := hk.out
    by_cases hlt : 4 * (k : Int) < (n : Int)
    · go_wp2_with fail
      go_loopw [5, 6] (fun x y wi => ∃ t : Nat, t ≤ 4 ∧ Hid (x = .int .u64 (wdD zs (4 * k) t)) ∧ y = .int .i64 (3 - (t : Int)) ∧ Hid (StF w wi (flW Z4 zs k))) (fun x y _ => (intOf y + 1).toNat)
      case atStart => exact ⟨0, by omega, hid rfl, rfl, hst⟩
      case round =>
        clear hst
        obtain ⟨t, ht, hx, rfl, hst⟩ := hrel
        obtain rfl := hx.out
        by_cases ht4 : t < 4
        · obtain ⟨W, hW⟩ : ∃ W, wdD zs (4 * k) t = W := ⟨_, rfl⟩
          have hWb := wdD_bd HZ.out (4 * k) t
          have hp : (256 : Int) ^ t ≤ 16777216 := by
            have h3 : t = 0 ∨ t = 1 ∨ t = 2 ∨ t = 3 := by omega
            rcases h3 with rfl | rfl | rfl | rfl <;> decide
          have hnx : wdD zs (4 * k) (t + 1) = 256 * W + zA zs (4 * k + (3 - t)) := by rw [wdD, hW]
          rw [hW] at hWb ⊢
          have hWlt : W < 16777216 := Int.lt_of_lt_of_le hWb.2 hp
          have hWge := hWb.1
          clear hWb
          obtain ⟨J, hJ⟩ : ∃ J, 4 * k + (3 - t) = J := ⟨_, rfl⟩
          have hJi : IntKind.i64.wrap (4 * (k : Int) + (3 - (t : Int))) = (J : Int) := by rw [IntWalk.i64_in _ (by omega)]; omega
          have hz := HZ.out J
          rw [hJ] at hnx
          have q0 : IntKind.u64.wrap (256 * W) = 256 * W := IntWalk.u64_in _ (by omega)
          have q1 : IntKind.i64.wrap (3 - (t : Int) - 1) = 3 - ((t + 1 : Nat) : Int) := by rw [IntWalk.i64_in _ (by omega)]; omega
          have HNX := hid hnx
          have g3 : (0 : Int) ≤ 3 - (t : Int) := by omega
          clear hnx hx hW hp
          by_cases hJn : (J : Int) < (n : Int)
          · obtain ⟨g, o, rfl, hc⟩ := rd_byte (i := J) (HRD.out.kept hst.out.fr (by simp)) (by rw [HN.out]; omega)
            have hc' : wr.cell? ⟨g, o + J, none⟩ = some (.int .u8 (zA zs J)) := hc
            obtain ⟨z, hzz⟩ : ∃ z, zA zs J = z := ⟨_, rfl⟩
            rw [hzz] at hz hc'
            have q2 : IntKind.u64.wrap z = z := IntWalk.u64_in _ (by omega)
            have q3 : IntKind.u64.wrap (256 * W + z) = 256 * W + z := IntWalk.u64_in _ (by omega)
            have HZZ := hid hzz
            clear hc hzz hJ
            go_wp2_with fail
            go_roundw
            case rel => exact ⟨t + 1, by omega, hid (by rw [HNX.out, HZZ.out]), rfl, hst⟩
            case measure => simp [intOf]; omega
          · have hz0 : zA zs J = 0 := zA_out (by rw [HN.out]; omega)
            have HZZ := hid hz0
            clear hz0 hJ
            go_wp2_with fail
            go_roundw
            case rel => exact ⟨t + 1, by omega, hid (by rw [HNX.out, HZZ.out, Int.add_zero]), rfl, hst⟩
            case measure => simp [intOf]; omega
        · obtain rfl : t = 4 := by omega
          rw [wdD_four HZ.out]
          have hlb := lowW_bd (zA zs (4 * k)) (zA zs (4 * k + 1)) (zA zs (4 * k + 2)) (zA zs (4 * k + 3))
          have hnx : wordS (flW Z4 zs k) (lowW (zA zs (4 * k)) (zA zs (4 * k + 1)) (zA zs (4 * k + 2)) (zA zs (4 * k + 3))) = flW Z4 zs (k + 1) := rfl
          obtain ⟨L, hL⟩ : ∃ L, lowW (zA zs (4 * k)) (zA zs (4 * k + 1)) (zA zs (4 * k + 2)) (zA zs (4 * k + 3)) = L := ⟨_, rfl⟩
          obtain ⟨cur, hcur⟩ : ∃ cur, flW Z4 zs k = cur := ⟨_, rfl⟩
          rw [hL] at hlb hnx ⊢
          rw [hcur] at hnx hst
          have HNX := hid hnx
          have l1 := lt_of_heap hst.out.h1
          have e0 : wr.cell? ⟨w.heap.size + 1, 0, none⟩ = some (.int .u64 cur.a) := by rw [cell_of_row wr _ _ _ _ _ hst.out.h1]; rfl
          have e1 : wr.cell? ⟨w.heap.size + 1, 1, none⟩ = some (.int .u64 cur.b) := by rw [cell_of_row wr _ _ _ _ _ hst.out.h1]; rfl
          have e2 : wr.cell? ⟨w.heap.size + 1, 2, none⟩ = some (.int .u64 cur.c) := by rw [cell_of_row wr _ _ _ _ _ hst.out.h1]; rfl
          have e3 : wr.cell? ⟨w.heap.size + 1, 3, none⟩ = some (.int .u64 cur.d) := by rw [cell_of_row wr _ _ _ _ _ hst.out.h1]; rfl
          have z0 : wr.frozen? ⟨w.heap.size + 1, 0, none⟩ = false := frozen_of_row wr _ 0 _ _ hst.out.h1
          have z1 : wr.frozen? ⟨w.heap.size + 1, 1, none⟩ = false := frozen_of_row wr _ 1 _ _ hst.out.h1
          have z2 : wr.frozen? ⟨w.heap.size + 1, 2, none⟩ = false := frozen_of_row wr _ 2 _ _ hst.out.h1
          have z3 : wr.frozen? ⟨w.heap.size + 1, 3, none⟩ = false := frozen_of_row wr _ 3 _ _ hst.out.h1
          have HS4 := hid (set4 (y0 := .int .u64 (wordS cur L).a) (y1 := .int .u64 (wordS cur L).b) (y2 := .int .u64 (wordS cur L).c) (y3 := .int .u64 (wordS cur L).d) hst.out.h1)
          have q1 : IntKind.i64.wrap (4 * (k : Int) + 4) = 4 * ((k + 1 : Nat) : Int) := by rw [IntWalk.i64_in _ (by omega)]; omega
          rw [show (3 - ((4 : Nat) : Int)) = -1 from rfl]
          have HST0 := hid (And.intro hst.out.h0 hst.out.fr)
          clear hnx hL hcur hx hst ht ht4
          go_wp2_with fail
          go_roundw
          case rel =>
            obtain ⟨h4, f4⟩ := HS4.out
            refine ⟨k + 1, hid (by omega), rfl, hid ⟨f4.heap HST0.out.1 (by simp), ?_, HST0.out.2.trans f4 (fun i hi hl => by simp at hi; omega)⟩⟩
            rw [← HNX.out]
            exact h4
          case measure => simp [intOf]; omega
    · have hkq : k = (n + 3) / 4 := by omega
      have hst' := hst.out
      rw [hkq, HU.out] at hst'
      obtain ⟨S, hS⟩ : ∃ S, fletch zs = S := ⟨_, rfl⟩
      rw [hS] at hst'
      have HS := hid hS
      have e0 : wr.cell? ⟨w.heap.size + 1, 0, none⟩ = some (.int .u64 S.a) := by rw [cell_of_row wr _ _ _ _ _ hst'.h1]; rfl
      have e1 : wr.cell? ⟨w.heap.size + 1, 1, none⟩ = some (.int .u64 S.b) := by rw [cell_of_row wr _ _ _ _ _ hst'.h1]; rfl
      have e2 : wr.cell? ⟨w.heap.size + 1, 2, none⟩ = some (.int .u64 S.c) := by rw [cell_of_row wr _ _ _ _ _ hst'.h1]; rfl
      have e3 : wr.cell? ⟨w.heap.size + 1, 3, none⟩ = some (.int .u64 S.d) := by rw [cell_of_row wr _ _ _ _ _ hst'.h1]; rfl
      have r0 : wr.cell? ⟨w.heap.size, 0, none⟩ = some (.int .u64 0) := by rw [cell_of_row wr _ _ _ _ _ hst'.h0]; rfl
      have r1 : wr.cell? ⟨w.heap.size, 1, none⟩ = some (.int .u64 0) := by rw [cell_of_row wr _ _ _ _ _ hst'.h0]; rfl
      have r2 : wr.cell? ⟨w.heap.size, 2, none⟩ = some (.int .u64 0) := by rw [cell_of_row wr _ _ _ _ _ hst'.h0]; rfl
      have r3 : wr.cell? ⟨w.heap.size, 3, none⟩ = some (.int .u64 0) := by rw [cell_of_row wr _ _ _ _ _ hst'.h0]; rfl
      have z0 : wr.frozen? ⟨w.heap.size, 0, none⟩ = false := frozen_of_row wr _ 0 _ _ hst'.h0
      have z1 : wr.frozen? ⟨w.heap.size, 1, none⟩ = false := frozen_of_row wr _ 1 _ _ hst'.h0
      have z2 : wr.frozen? ⟨w.heap.size, 2, none⟩ = false := frozen_of_row wr _ 2 _ _ hst'.h0
      have z3 : wr.frozen? ⟨w.heap.size, 3, none⟩ = false := frozen_of_row wr _ 3 _ _ hst'.h0
      have HS4 := hid (set4 (y0 := .int .u64 S.a) (y1 := .int .u64 S.b) (y2 := .int .u64 S.c) (y3 := .int .u64 S.d) hst'.h0)
      have HFR := hid hst'.fr
      clear hkq hst hst' hS hk'
      go_wp2_with fail
      obtain ⟨h4, f4⟩ := HS4.out
      obtain ⟨wz, hwz⟩ : ∃ wz, (((wr.setCell ⟨w.heap.size, 0, none⟩ (.int .u64 S.a)).setCell ⟨w.heap.size, 1, none⟩ (.int .u64 S.b)).setCell ⟨w.heap.size, 2, none⟩ (.int .u64 S.c)).setCell ⟨w.heap.size, 3, none⟩ (.int .u64 S.d) = wz := ⟨_, rfl⟩
      rw [hwz] at h4 f4 ⊢
      have hfz : Frm [] w wz := HFR.out.trans f4 (fun i hi hl => by simp at hi; omega)
      have g0 : wz.cell? ⟨w.heap.size, 0, none⟩ = some (.int .u64 S.a) := by rw [cell_of_row wz _ _ _ _ _ h4]; rfl
      have g1 : wz.cell? ⟨w.heap.size, 1, none⟩ = some (.int .u64 S.b) := by rw [cell_of_row wz _ _ _ _ _ h4]; rfl
      have g2 : wz.cell? ⟨w.heap.size, 2, none⟩ = some (.int .u64 S.c) := by rw [cell_of_row wz _ _ _ _ _ h4]; rfl
      have g3 : wz.cell? ⟨w.heap.size, 3, none⟩ = some (.int .u64 S.d) := by rw [cell_of_row wz _ _ _ _ _ h4]; rfl
      refine bodyPost_ret (v := .agg #[.int .u64 S.a, .int .u64 S.b, .int .u64 S.c, .int .u64 S.d]) (by simp [results, Tryz.results84, go_sem, g0, g1, g2, g3]) rfl ⟨?_, hfz⟩
      rw [HS.out]
      rfl
end
section
open Go.RowKit
set_option maxRecDepth 100000
def lowD (a b c d : Int) : Int := bits .or .u32 (bits .or .u32 (bits .or .u32 (a * 16777216) (b * 65536)) (c * 256)) d
theorem or_nat {a b : Int} (ha : 0 ≤ a ∧ a < 4294967296) (hb : 0 ≤ b ∧ b < 4294967296) : ∃ x y : Nat, a = (x : Int) ∧ b = (y : Int) ∧ x < 4294967296 ∧ y < 4294967296 ∧ bits .or .u32 a b = ((x ||| y : Nat) : Int) ∧ x ||| y < 4294967296 :=
  ⟨a.toNat, b.toNat, by omega, by omega, by omega, by omega, u32_or a b ha.1 ha.2 hb.1 hb.2, Nat.or_lt_two_pow (n := 32) (by omega) (by omega)⟩
theorem lowD_eq (a b c d : Int) (ha : 0 ≤ a ∧ a < 256) (hb : 0 ≤ b ∧ b < 256) (hc : 0 ≤ c ∧ c < 256) (hd : 0 ≤ d ∧ d < 256) : lowD a b c d = lowW d c b a := by
  unfold lowD lowW
  obtain ⟨x, y, e1, e2, l1, l2, h1, g1⟩ := or_nat (a := a * 16777216) (b := b * 65536) (by omega) (by omega)
  obtain ⟨x2, y2, f1, f2, _, _, h2, g2⟩ := or_nat (a := ((x ||| y : Nat) : Int)) (b := c * 256) (by omega) (by omega)
  obtain ⟨x3, y3, k1, k2, _, _, h3, g3⟩ := or_nat (a := ((x2 ||| y2 : Nat) : Int)) (b := d) (by omega) (by omega)
  rw [h1, h2, h3]
  rw [e1, e2, f2, k2]
  rw [u32_or_nat y3 y2 (by omega) (by omega), u32_or_nat (y3 ||| y2) y (Nat.or_lt_two_pow (n := 32) (by omega) (by omega)) (by omega), u32_or_nat (y3 ||| y2 ||| y) x (Nat.or_lt_two_pow (n := 32) (Nat.or_lt_two_pow (n := 32) (by omega) (by omega)) (by omega)) (by omega)]
  have hx2 : x2 = x ||| y := by omega
  have hx3 : x3 = x2 ||| y2 := by omega
  subst hx3
  subst hx2
  congr 1
  simp only [Nat.or_assoc]
  rw [Nat.or_comm, Nat.or_comm y, Nat.or_assoc, Nat.or_comm y2, Nat.or_assoc]
/-- The words of a call of the document's words. -/
structure StW (w0 w : World) (y : Nat) (cur : List Int) : Prop where
  h2 : w.heap[y]? = some (.cells (wv cur).toArray 123 (0, 0))
  len : cur.length = 64
  hy : w0.heap.size ≤ y
  fr : Frm [] w0 w
theorem StW.drew {w0 w : World} {y : Nat} {cur : List Int} (h : StW w0 w y cur) : StW w0 w.drew y cur := ⟨h.h2, h.len, h.hy, h.fr.drew⟩
theorem StW.set {w0 w : World} {y : Nat} {cur : List Int} (h : StW w0 w y cur) (t : Nat) (z : Int) : StW w0 (w.setCell ⟨y, t, none⟩ (.int .u32 z)) y (cur.set t z) := by
  have f : Frm [y] w (w.setCell ⟨y, t, none⟩ (.int .u32 z)) := (Frm.refl _ _).setCell _ _ (by simp)
  have e := h.hy
  refine ⟨?_, by simp [h.len], e, h.fr.trans f (fun i hi hl => by simp at hi; omega)⟩
  rw [heap_setCell_same w y t _ _ _ h.h2]
  congr 2
  apply Array.ext'
  simp [wv, List.map_set]
theorem StW.at {w0 w : World} {y : Nat} {cur : List Int} (h : StW w0 w y cur) (t : Nat) (ht : t < 64) : w.cell? ⟨y, t, none⟩ = some (.int .u32 (zA cur t)) := by
  rw [cell_of_row w _ _ _ _ _ h.h2]
  have := h.len
  simp [wv, zA, List.getD_eq_getElem?_getD, show t < cur.length by omega]
theorem StW.free {w0 w : World} {y : Nat} {cur : List Int} (h : StW w0 w y cur) (t : Nat) : w.frozen? ⟨y, t, none⟩ = false := frozen_of_row w y t _ _ h.h2
theorem make_words (w : World) : (Instr.makeSlice 126 (.int .i64 64) (.int .i64 64)).run Tryz.prog w = .ok (.slice (some ⟨w.heap.size, 0, none⟩) 64 64) (w.alloc (.cells (wv (List.replicate 64 0)).toArray 123)) := by
  have hI : (Tryz.prog.info? 123).map (fun i => (i.zero, i.size, i.bytes)) = some (some (.int .u32 0), 1, 4) := by kernel_rfl
  obtain ⟨i, hi, h⟩ := Option.map_eq_some_iff.1 hI
  simp only [Prod.mk.injEq] at h
  obtain ⟨hz, h1, h2⟩ := h
  have hr := run_make (P := Tryz.prog) w 126 123 i (.int .u32 0) Tryz.underlying126 hi hz .i64 .i64 64 64 (by omega) (by omega) (by rw [h2]; omega) (by omega)
  rw [h1, show (Value.int .u32 0).cells = #[Value.int .u32 0] from rfl] at hr
  have e : madeCells #[Value.int .u32 0] 64 = (wv (List.replicate 64 0)).toArray := by kernel_rfl
  simpa [e] using hr
set_option maxHeartbeats 6400000 in
theorem words_any (p : Option Addr) (n c : Nat) (zs : List Int) (w : World) (hn : zs.length = n) (h64 : n = 64) (hrd : Rd w p zs) (hb : ∀ z ∈ zs, 0 ≤ z ∧ z < 256) :
    Calls Tryz.prog 110 #[.slice p n c] w fun e w' => ∃ y, e = .returned (.slice (some ⟨y, 0, none⟩) 64 64) ∧ StW w w' y (wB (wA zs 16) 48) := by
  have HRD := hid hrd
  have HZB := hid hb
  have HN := hid hn
  have hnn : 64 ≤ n ∧ n ≤ 64 := by omega
  clear hrd hb hn h64
  have hmk := make_words w
  have HS0 : Hid (StW w (w.alloc (.cells (wv (List.replicate 64 0)).toArray 123)) w.heap.size (wA zs 0)) := hid ⟨heap_alloc_new _ _, by simp [wA], Nat.le_refl _, (Frm.refl _ _).alloc _⟩
  obtain ⟨wm, hwm⟩ : ∃ wm, w.alloc (.cells (wv (List.replicate 64 0)).toArray 123) = wm := ⟨_, rfl⟩
  rw [hwm] at hmk HS0
  clear hwm
  obtain ⟨xb, hxb⟩ : ∃ x, w.heap.size = x := ⟨_, rfl⟩
  rw [hxb] at hmk HS0
  clear hxb
  go_enter Tryz.func110, Tryz.ntmps110
  go_wp2_with fail
  go_loopw [4] (fun i wr => ∃ t : Nat, t ≤ 16 ∧ i = .int .i64 t ∧ Hid (StW w wr xb (wA zs t))) (fun i _ => 16 - (intOf i).toNat)
  case atStart => exact ⟨0, by omega, rfl, HS0⟩
  case round =>
    clear HS0
    obtain ⟨t, ht, rfl, hst⟩ := hrel
    by_cases hlt : t < 16
    · have rd : ∀ i, i < n → ∃ g o, p = some ⟨g, o, none⟩ ∧ wr.cell? ⟨g, o + i, none⟩ = some (.int .u8 (zA zs i)) ∧ (0 ≤ zA zs i ∧ zA zs i < 256) := fun i hi => by
        obtain ⟨g, o, e1, e2⟩ := rd_byte (i := i) (HRD.out.kept hst.out.fr (by simp)) (by rw [HN.out]; exact hi)
        refine ⟨g, o, e1, e2, HZB.out _ ?_⟩
        unfold zA
        rw [List.getD_eq_getElem?_getD, List.getElem?_eq_getElem (by rw [HN.out]; exact hi)]
        exact List.getElem_mem _
      obtain ⟨g, o, rfl, c0, b0⟩ := rd (4 * t) (by omega)
      obtain ⟨_, _, e1, c1, b1⟩ := rd (4 * t + 1) (by omega)
      obtain ⟨_, _, e2, c2, b2⟩ := rd (4 * t + 2) (by omega)
      obtain ⟨_, _, e3, c3, b3⟩ := rd (4 * t + 3) (by omega)
      simp only [Option.some.injEq, Addr.mk.injEq, and_true] at e1 e2 e3
      obtain ⟨rfl, rfl⟩ := e1
      obtain ⟨rfl, rfl⟩ := e2
      obtain ⟨rfl, rfl⟩ := e3
      have hnx : (wA zs t).set t (lowW (zA zs (4 * t + 3)) (zA zs (4 * t + 2)) (zA zs (4 * t + 1)) (zA zs (4 * t))) = wA zs (t + 1) := rfl
      rw [← lowD_eq _ _ _ _ b0 b1 b2 b3] at hnx
      have HNX := hid hnx
      clear hnx
      generalize zA zs (4 * t) = y0 at c0 b0 HNX
      generalize zA zs (4 * t + 1) = y1 at c1 b1 HNX
      generalize zA zs (4 * t + 2) = y2 at c2 b2 HNX
      generalize zA zs (4 * t + 3) = y3 at c3 b3 HNX
      obtain ⟨b00, b01⟩ := b0
      obtain ⟨b10, b11⟩ := b1
      obtain ⟨b20, b21⟩ := b2
      obtain ⟨b30, b31⟩ := b3
      have cw := hst.out.at t (by omega)
      have fz := hst.out.free t
      have s0 : (0 : Int) ≤ (t : Int) := by omega
      have s1 : (t : Int) < 64 := by omega
      have s2 : (4 * (t : Int)).toNat = 4 * t := by omega
      have s3 : (4 * (t : Int) + 1).toNat = 4 * t + 1 := by omega
      have s4 : (4 * (t : Int) + 2).toNat = 4 * t + 2 := by omega
      have s5 : (4 * (t : Int) + 3).toNat = 4 * t + 3 := by omega
      have i0 : 4 * (t : Int) < (n : Int) := by omega
      have i1 : 4 * (t : Int) + 1 < (n : Int) := by omega
      have i2 : 4 * (t : Int) + 2 < (n : Int) := by omega
      have i3 : 4 * (t : Int) + 3 < (n : Int) := by omega
      have j0 : (0 : Int) ≤ 4 * (t : Int) := by omega
      have j1 : (0 : Int) ≤ 4 * (t : Int) + 1 := by omega
      have j2 : (0 : Int) ≤ 4 * (t : Int) + 2 := by omega
      have j3 : (0 : Int) ≤ 4 * (t : Int) + 3 := by omega
      have k0 : IntKind.i64.wrap (4 * (t : Int)) = 4 * (t : Int) := IntWalk.i64_in _ (by omega)
      have k1 : IntKind.i64.wrap (4 * (t : Int) + 1) = 4 * (t : Int) + 1 := IntWalk.i64_in _ (by omega)
      have k2 : IntKind.i64.wrap (4 * (t : Int) + 2) = 4 * (t : Int) + 2 := IntWalk.i64_in _ (by omega)
      have k3 : IntKind.i64.wrap (4 * (t : Int) + 3) = 4 * (t : Int) + 3 := IntWalk.i64_in _ (by omega)
      clear rd
      go_wp2_with fail
      go_still_tail 36, (by kernel_rfl)
      change wpList _ _ _ _ _ wr.drew
      have HS4 := hid hst.out.drew
      obtain ⟨w4, hw4⟩ : ∃ w4, wr.drew = w4 := ⟨_, rfl⟩
      have cw4 : w4.cell? ⟨xb, t, none⟩ = some (.int .u32 (zA (wA zs t) t)) := by rw [← hw4]; exact cw
      have fz4 : w4.frozen? ⟨xb, t, none⟩ = false := by rw [← hw4]; exact fz
      rw [hw4] at HS4 ⊢
      clear hw4 c0 c1 c2 c3 cw fz
      go_wp2_with fail
      go_roundw
      case rel => exact ⟨t + 1, by omega, by go_num, hid (by have h := HS4.out.set t (lowD y0 y1 y2 y3); rwa [HNX.out] at h)⟩
      case measure => simp [intOf]; omega
    · obtain rfl : t = 16 := by omega
      clear hlt
      rw [show ((16 : Nat) : Int) = 16 from rfl]
      go_wp2_with fail
      go_loopw [5] (fun i wr => ∃ t u : Nat, Hid (t = 16 + u) ∧ 16 ≤ t ∧ t ≤ 64 ∧ i = .int .i64 t ∧ Hid (StW w wr xb (wB (wA zs 16) u))) (fun i _ => 64 - (intOf i).toNat)
      case atStart => exact ⟨16, 0, hid rfl, by omega, by omega, rfl, hst⟩
      case round =>
        clear hst
        obtain ⟨t, u, htu, ht6, ht, rfl, hst⟩ := hrel
        by_cases hlt : t < 64
        · have hnx : (wB (wA zs 16) u).set t (wN (wB (wA zs 16) u) t) = wB (wA zs 16) (u + 1) := by rw [htu.out]; rfl
          have HNX := hid hnx
          obtain ⟨cur, hcur⟩ : ∃ cur, wB (wA zs 16) u = cur := ⟨_, rfl⟩
          rw [hcur] at hst HNX
          have HC : Hid (∀ w', StW w w' xb cur → w'.cell? ⟨xb, t - 16, none⟩ = some (.int .u32 (zA cur (t - 16))) ∧ w'.cell? ⟨xb, t - 15, none⟩ = some (.int .u32 (zA cur (t - 15))) ∧ w'.cell? ⟨xb, t - 7, none⟩ = some (.int .u32 (zA cur (t - 7))) ∧ w'.cell? ⟨xb, t - 2, none⟩ = some (.int .u32 (zA cur (t - 2))) ∧ w'.cell? ⟨xb, t, none⟩ = some (.int .u32 (zA cur t)) ∧ w'.frozen? ⟨xb, t, none⟩ = false) := hid (fun w' h => ⟨h.at _ (by omega), h.at _ (by omega), h.at _ (by omega), h.at _ (by omega), h.at _ (by omega), h.free t⟩)
          unfold wN sg0 sg1 at HNX
          generalize zA cur (t - 16) = x16 at HC HNX
          generalize zA cur (t - 15) = x15 at HC HNX
          generalize zA cur (t - 7) = x7 at HC HNX
          generalize zA cur (t - 2) = x2 at HC HNX
          generalize zA cur t = xt at HC
          obtain ⟨c16, c15, c7, c2, cw, fz⟩ := HC.out wr hst.out
          have k16 : IntKind.i64.wrap ((t : Int) - 16) = (t : Int) - 16 := IntWalk.i64_in _ (by omega)
          have k15 : IntKind.i64.wrap ((t : Int) - 15) = (t : Int) - 15 := IntWalk.i64_in _ (by omega)
          have k7 : IntKind.i64.wrap ((t : Int) - 7) = (t : Int) - 7 := IntWalk.i64_in _ (by omega)
          have k2 : IntKind.i64.wrap ((t : Int) - 2) = (t : Int) - 2 := IntWalk.i64_in _ (by omega)
          have n16 : ((t : Int) - 16).toNat = t - 16 := by omega
          have n15 : ((t : Int) - 15).toNat = t - 15 := by omega
          have n7 : ((t : Int) - 7).toNat = t - 7 := by omega
          have n2 : ((t : Int) - 2).toNat = t - 2 := by omega
          have a16 : (0 : Int) ≤ (t : Int) - 16 := by omega
          have a15 : (0 : Int) ≤ (t : Int) - 15 := by omega
          have a7 : (0 : Int) ≤ (t : Int) - 7 := by omega
          have a2 : (0 : Int) ≤ (t : Int) - 2 := by omega
          have b16 : (t : Int) - 16 < 64 := by omega
          have b15 : (t : Int) - 15 < 64 := by omega
          have b7 : (t : Int) - 7 < 64 := by omega
          have b2 : (t : Int) - 2 < 64 := by omega
          have s0 : (0 : Int) ≤ (t : Int) := by omega
          have s1 : (t : Int) < 64 := by omega
          have q16 : (16 : Int) ≤ (t : Int) := by omega
          have q7 : (7 : Int) ≤ (t : Int) := by omega
          clear hnx hcur
          go_wp2_with fail
          go_still_tail 32, (by kernel_rfl)
          refine wpStill_step (fun K hK => ?_)
          go_simp
          refine ⟨_, turned_all _ _ rfl _, hK _ ?_⟩
          clear hK K
          repeat still_step
          refine wpStill_step (fun K hK => ?_)
          go_simp
          refine ⟨_, turned_all _ _ rfl _, hK _ ?_⟩
          clear hK K
          repeat still_step
          refine wpStill_step (fun K hK => ?_)
          go_simp
          refine ⟨_, turned_all _ _ rfl _, hK _ ?_⟩
          clear hK K
          repeat still_step
          refine wpStill_step (fun K hK => ?_)
          go_simp
          refine ⟨_, turned_all _ _ rfl _, hK _ ?_⟩
          clear hK K
          repeat still_step
          refine wpStill_nil ?_
          change wpList _ _ _ _ _ wr.drew
          have HS7 := hid (hst.out.drew)
          obtain ⟨w7, hw7⟩ : ∃ w7, wr.drew = w7 := ⟨_, rfl⟩
          rw [hw7] at HS7 ⊢
          clear c16 c15 c7 c2 cw fz hw7 hst
          obtain ⟨_, _, _, _, cw, fz⟩ := HC.out w7 HS7.out
          go_wp2_with fail
          go_roundw
          case rel => exact ⟨t + 1, u + 1, hid (by have := htu.out; omega), by omega, by omega, by go_num, hid (by rw [← HNX.out]; exact HS7.out.set t _)⟩
          case measure => simp [intOf]; omega
        · obtain rfl : t = 64 := by omega
          clear hlt
          obtain rfl : u = 48 := by have := htu.out; omega
          rw [show ((64 : Nat) : Int) = 64 from rfl]
          go_wp2_with fail
          go_returns
          exact ⟨xb, rfl, hst.out⟩
end
end Go.Proofs.YtajfjkfnmmfhmaaGreatDoor
