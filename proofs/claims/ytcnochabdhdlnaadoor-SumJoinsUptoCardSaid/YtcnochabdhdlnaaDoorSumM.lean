/- SumJoins, walked. -/
import Derived.Test.YtcnochabdhdlnaaDoorSumL
import Derived.Test.YtcnochabdhdlnaaDoorRowG
namespace Go.Proofs.YtcnochabdhdlnaaDoor
open Go.RowKit
set_option maxRecDepth 100000

set_option maxHeartbeats 6400000 in
theorem joins_any (pa : Option Addr) (na ca : Nat) (xs : List Int) (pb : Option Addr) (nb cb : Nat) (ys : List Int) (at_ mask : Int) (w : World) (hla : xs.length = na) (hlb : ys.length = nb) (hca : na ≤ ca) (hcb : nb ≤ cb) (hcA : ca ≤ 9223372036854775807) (hcB : cb ≤ 9223372036854775807) (hra : Rd w pa xs) (hrb : Rd w pb ys) (hba : ∀ z ∈ xs, 0 ≤ z ∧ z < 256) (hbb : ∀ z ∈ ys, 0 ≤ z ∧ z < 256) (hpa : xs = [] → pa = none → ca = 0) (hpb : ys = [] → pb = none → cb = 0) (hm : 0 ≤ mask ∧ mask < 256) (hsz : na + nb ≤ 140737488355328) (hpr : Primes w) :
    Calls Tryd.prog 7 #[.slice pa na ca, .slice pb nb cb, .int .i64 at_, .int .u8 mask] w fun e w' => e = .returned (.bool true) ∧ Frm [] w w' := by
  have HLA := hid hla
  have HLB := hid hlb
  have HRA := hid hra
  have HRB := hid hrb
  have HBA := hid hba
  have HBB := hid hbb
  have HPA := hid hpa
  have HPB := hid hpb
  have HM := hid hm
  have HPR := hid hpr
  clear hla hlb hra hrb hba hbb hpa hpb hm hpr
  go_enter Tryd.func7, Tryd.ntmps7
  go_wp2_with fail
  refine (awake2_any _ HPR.out).mono ?_
  rintro e w1 ⟨rfl, hf1⟩
  have HF1 := hid hf1
  clear hf1
  go_wp2_with fail
  obtain ⟨A, hA⟩ : ∃ A, xs.take (na / 4 * 4) = A := ⟨_, rfl⟩
  have hAl : A.length = na / 4 * 4 := by rw [← hA, List.length_take, HLA.out]; omega
  have hAb : ∀ z ∈ A, 0 ≤ z ∧ z < 256 := fun z hz => HBA.out z (by rw [← hA] at hz; exact List.mem_of_mem_take hz)
  have hAr : Rd w pa A := by
    rcases HRA.out with h | ⟨g, o, e1, e2⟩
    · exact Or.inl (by rw [← hA, h]; simp)
    · refine Or.inr ⟨g, o, e1, fun i hi => ?_⟩
      have hi2 : i < na / 4 * 4 := by rw [← hAl]; exact hi
      rw [e2 i (by rw [HLA.out]; omega), ← hA]
      simp [List.getD_eq_getElem?_getD, hi2]
  have hAp : A = [] → pa = none → ca = 0 := fun _ h => by
    rcases HRA.out with h2 | ⟨g, o, e1, _⟩
    · exact HPA.out h2 h
    · rw [h] at e1; cases e1
  have HAL := hid hAl
  have HAB := hid hAb
  have HAR := hid hAr
  have HAP := hid hAp
  obtain ⟨la, hla⟩ : ∃ la, na / 4 * 4 = la := ⟨_, rfl⟩
  rw [hla] at HAL ⊢
  have hla2 : la ≤ na := by omega
  have HQ : Hid (la = 4 * (na / 4)) := hid (by omega)
  clear hA hAl hAb hAr hAp hla HLA HRA HBA HPA
  refine (of_fl pa la ca A w1 HAL.out (by omega) (by omega) (HAR.out.kept HF1.out (by simp)) HAB.out).mono ?_
  rintro e w2 ⟨rfl, hf2⟩
  obtain ⟨X, hX⟩ : ∃ X, fletch A = X := ⟨_, rfl⟩
  rw [hX]
  have HX := hid hX
  unfold S4.arr
  have HF2 := hid (HF1.out.trans hf2 (by simp))
  clear hX hf2
  go_wp2_with fail
  have hfx : Frm [] w2 (w2.alloc (.cells #[.int .u64 X.a, .int .u64 X.b, .int .u64 X.c, .int .u64 X.d] 25)) := (Frm.refl _ _).alloc _
  have hrx := heap_alloc_new w2 (.cells #[.int .u64 X.a, .int .u64 X.b, .int .u64 X.c, .int .u64 X.d] 25)
  have hf2x := HF2.out.trans hfx (by simp)
  refine (of_fl pb nb cb ys _ HLB.out hcb (by omega) (HRB.out.kept hf2x (by simp)) HBB.out).mono ?_
  rintro e w3 ⟨rfl, hf3⟩
  obtain ⟨Y, hY⟩ : ∃ Y, fletch ys = Y := ⟨_, rfl⟩
  rw [hY]
  have HY := hid hY
  unfold S4.arr
  have HRX := hid (hf3.heap hrx (by simp))
  have HF3 := hid (hf2x.trans hf3 (by simp))
  obtain ⟨bx, hbx⟩ : ∃ bx, w2.heap.size = bx := ⟨_, rfl⟩
  rw [hbx] at HRX ⊢
  clear hY hf3 hfx hrx hf2x hbx
  have hfy : Frm [] w3 (w3.alloc (.cells #[.int .u64 Y.a, .int .u64 Y.b, .int .u64 Y.c, .int .u64 Y.d] 25)) := (Frm.refl _ _).alloc _
  have HRY := hid (heap_alloc_new w3 (.cells #[.int .u64 Y.a, .int .u64 Y.b, .int .u64 Y.c, .int .u64 Y.d] 25))
  have HRX4 := hid (hfy.heap HRX.out (by simp))
  have HF4 := hid (HF3.out.trans hfy (by simp))
  have HSZ3 : Hid ((w3.alloc (.cells #[.int .u64 Y.a, .int .u64 Y.b, .int .u64 Y.c, .int .u64 Y.d] 25)).heap.size = w3.heap.size + 1) := hid (by simp)
  clear hfy
  go_wp2_with (at_builtin; refine wpList_appB rfl _ _ 22 rfl 5 Tryd.underlying22 infoB none 0 0 [] rfl rfl (Own.nil _ _) pa la ca A rfl HAL.out.symm HAP.out (HAR.out.kept HF4.out (by simp)) (by rw [HAL.out]; simp; omega) ?_)
  intro xs2 p2 c2 w5 hxs ho hf5 hfr
  have hx2 : xs2 = A := hxs.out
  subst xs2
  have HO5 := hid ho.out
  have hf5' : Frm [] (w3.alloc (.cells #[.int .u64 Y.a, .int .u64 Y.b, .int .u64 Y.c, .int .u64 Y.d] 25)) w5 := hf5.out.mono (by simp [blk])
  have HF5 := hid (HF4.out.trans hf5' (by simp))
  have HRX5 := hid (hf5'.heap HRX4.out (by simp))
  have HRY5 := hid (hf5'.heap HRY.out (by simp))
  have HFR : Hid (∀ k ∈ blk p2, w3.heap.size + 1 ≤ k) := hid (fun k hk => by
    rcases hfr.out k hk with h | h
    · simp [blk] at h
    · first | exact h | (rw [HSZ3.out] at h; exact h))
  obtain ⟨by_, hby⟩ : ∃ by_, w3.heap.size = by_ := ⟨_, rfl⟩
  rw [hby] at HRY5 HFR ⊢
  have HLT : Hid (bx < by_) := hid (by rw [← hby]; exact lt_of_heap HRX.out)
  have HW3 : Hid (w.heap.size ≤ by_) := hid (by rw [← hby]; exact HF3.out.size)
  clear ho hf5 hfr hf5' hby HRX HRX4 HRY HSZ3
  go_wp2_with (at_builtin; refine wpList_appB rfl _ _ 22 rfl 5 Tryd.underlying22 infoB p2 A.length c2 A rfl rfl HO5.out pb nb cb ys rfl HLB.out.symm HPB.out (HRB.out.kept HF5.out (by simp)) (by rw [HAL.out, HLB.out]; omega) ?_)
  intro xs3 p3 c3 w6 hxs ho hf6 hfr
  have HO6 := hid ho.out
  have HX3 := hid hxs.out
  have HF6 := hid (HF5.out.trans hf6.out (fun k hk hl => by have := HFR.out k hk; have := HW3.out; omega))
  have HRX6 := hid (hf6.out.heap HRX5.out (fun hk => by have := HFR.out _ hk; have := HLT.out; omega))
  have HRY6 := hid (hf6.out.heap HRY5.out (fun hk => by have := HFR.out _ hk; omega))
  have hl3 : xs3.length = la + nb := by rw [hxs.out, List.length_append, HAL.out, HLB.out]
  have HB3 : Hid (∀ z ∈ xs3, 0 ≤ z ∧ z < 256) := hid (fun z hz => by
    rw [hxs.out] at hz
    rcases List.mem_append.1 hz with hz | hz
    · exact HAB.out z hz
    · exact HBB.out z hz)
  have HBK3 : Hid (∀ k ∈ blk p3, by_ < k) := hid (fun k hk => by
    rcases hfr.out k hk with h | h
    · have := HFR.out k h; omega
    · have := lt_of_heap HRY5.out; omega)
  clear hxs ho hf6 hfr HRX5 HRY5 HO5
  obtain ⟨n3, hn3l⟩ : ∃ n3, xs3.length = n3 := ⟨_, rfl⟩
  have HCAP : Hid (n3 ≤ c3) := hid (by
    obtain ⟨p', c', he, hle, _⟩ := HO6.out.shape
    simp only [Value.slice.injEq] at he
    rw [← hn3l, he.2.2]
    exact hle)
  have HO6' : Hid (Own w6 5 (.slice p3 n3 c3) xs3) := hid (by rw [← hn3l]; exact HO6.out)
  have hn3b : n3 = la + nb := by rw [← hn3l]; exact hl3
  have hn3c : n3 ≤ 140737488355328 := by omega
  have HN3 := hid hn3l
  have HN3B := hid hn3b
  rw [hn3l]
  clear HO6 hl3 hn3l hn3b
  go_wp2_with fail
  refine (of_fl p3 n3 c3 xs3 w6 HN3.out HCAP.out (Nat.le_trans hn3c (by decide)) HO6'.out.rd HB3.out).mono ?_
  rintro e w7 ⟨rfl, hf7⟩
  obtain ⟨Z, hZ⟩ : ∃ Z, fletch xs3 = Z := ⟨_, rfl⟩
  have hj := joins_ab (a := A) (b := ys) (q := na / 4) (by rw [HAL.out]; exact HQ.out)
  rw [← HX3.out, hZ, HX.out, HY.out, HLB.out] at hj
  rw [hZ]
  have HZ := hid hZ
  unfold S4.arr
  obtain ⟨hj1, hj2⟩ := hj
  have HF7 := hid (HF6.out.trans hf7 (by simp))
  have hrx7 := hf7.heap HRX6.out (by simp)
  have hry7 := hf7.heap HRY6.out (by simp)
  have HO7 := hid (HO6'.out.kept hf7 (by simp))
  have hltx := lt_of_heap hrx7
  have hlty := lt_of_heap hry7
  have x0 : w7.cell? ⟨bx, 0, none⟩ = some (.int .u64 X.a) := by rw [cell_of_row w7 _ _ _ _ _ hrx7]; rfl
  have x1 : w7.cell? ⟨bx, 1, none⟩ = some (.int .u64 X.b) := by rw [cell_of_row w7 _ _ _ _ _ hrx7]; rfl
  have y0 : w7.cell? ⟨by_, 0, none⟩ = some (.int .u64 Y.a) := by rw [cell_of_row w7 _ _ _ _ _ hry7]; rfl
  have y1 : w7.cell? ⟨by_, 1, none⟩ = some (.int .u64 Y.b) := by rw [cell_of_row w7 _ _ _ _ _ hry7]; rfl
  obtain ⟨NN, hNN⟩ : ∃ NN : Int, (((nb + 3) / 4 : Nat) : Int) = NN := ⟨_, rfl⟩
  rw [hNN] at hj2
  have hn1 : IntKind.i64.wrap ((nb : Int) + 3) = (nb : Int) + 3 := IntWalk.i64_in _ (by omega)
  have hn2 : ((nb : Int) + 3) / 4 = NN := by omega
  have hn3 : IntKind.u64.wrap NN = NN := IntWalk.u64_in _ (by omega)
  have hn4 : 0 ≤ NN ∧ NN < 18446744073709551616 := by omega
  have HFIN : Hid (∀ w', Frm [] w7 w' → Frm [] w w') := hid (fun w' h => HF7.out.trans h (by simp))
  obtain ⟨za, zb, zc, zd⟩ := Z
  simp only at hj1 hj2
  subst hj1 hj2
  clear hZ hf7 hrx7 hry7 HRX6 HRY6 HO6' hNN
  by_cases c1 : 0 ≤ at_
  case neg =>
    have c1' : at_ < 0 := by omega
    clear c1
    go_wp2_with fail
    go_returns
    exact ⟨rfl, HFIN.out _ ((Frm.refl _ _).alloc _)⟩
  by_cases c2 : at_ < (n3 : Int)
  case neg =>
    have c2' : (n3 : Int) ≤ at_ := by omega
    clear c2
    go_wp2_with fail
    go_returns
    exact ⟨rfl, HFIN.out _ ((Frm.refl _ _).alloc _)⟩
  by_cases c3z : mask = 0
  case pos =>
    subst c3z
    go_wp2_with fail
    go_returns
    exact ⟨rfl, HFIN.out _ ((Frm.refl _ _).alloc _)⟩
  obtain ⟨i, rfl⟩ : ∃ i : Nat, at_ = i := ⟨at_.toNat, by omega⟩
  have hi : i < n3 := by omega
  obtain ⟨g, rfl, hg, hce, hfz, hset⟩ := HO7.out.setAt HN3.out hi
  obtain ⟨hx1, hx2, hx3⟩ := xor_ne (x := zA xs3 i) (m := mask) (zA_bd HB3.out i) HM.out c3z
  obtain ⟨v, hv⟩ : ∃ v, bits .xor .u8 (xs3.getD i 0) mask = v := ⟨_, rfl⟩
  have hv' : bits .xor .u8 (zA xs3 i) mask = v := hv
  have hv3 : bits .xor .u8 (xs3[i]?.getD 0) mask = v := by rw [← List.getD_eq_getElem?_getD]; exact hv
  have HV3 := hid hv3
  rw [hv'] at hx1 hx2 hx3
  have hfs : Frm [g] w7 (w7.setCell ⟨g, i, none⟩ (.int .u8 v)) := (Frm.refl _ _).setCell _ _ (by simp)
  have hfz8 : Frm [] (w7.setCell ⟨g, i, none⟩ (.int .u8 v)) ((w7.setCell ⟨g, i, none⟩ (.int .u8 v)).alloc (.cells #[.int .u64 (IntKind.u64.wrap (X.a + Y.a)), .int .u64 (IntKind.u64.wrap (IntKind.u64.wrap (X.b + IntKind.u64.wrap (NN * X.a)) + Y.b)), .int .u64 zc, .int .u64 zd] 25)) := (Frm.refl _ _).alloc _
  have hOn := (hset v).kept hfz8 (by simp)
  have hta := turned_a HB3.out (i := i) (by rw [HN3.out]; exact hi) ⟨hx2, hx3⟩ hx1
  have hbS : ∀ z ∈ xs3.set i v, 0 ≤ z ∧ z < 256 := fun z hz => by
    rcases List.mem_or_eq_of_mem_set hz with hz | hz
    · exact HB3.out z hz
    · rw [hz]; exact ⟨hx2, hx3⟩
  have hlS : (xs3.set i v).length = n3 := by rw [List.length_set]; exact HN3.out
  have hgz : g ≠ w7.heap.size := by omega
  have hF8 : Frm [g] w7 ((w7.setCell ⟨g, i, none⟩ (.int .u8 v)).alloc (.cells #[.int .u64 (IntKind.u64.wrap (X.a + Y.a)), .int .u64 (IntKind.u64.wrap (IntKind.u64.wrap (X.b + IntKind.u64.wrap (NN * X.a)) + Y.b)), .int .u64 zc, .int .u64 zd] 25)) := hfs.trans (hfz8.mono (by simp)) (fun i hi hl => hi)
  have hrz : ((w7.setCell ⟨g, i, none⟩ (.int .u8 v)).alloc (.cells #[.int .u64 (IntKind.u64.wrap (X.a + Y.a)), .int .u64 (IntKind.u64.wrap (IntKind.u64.wrap (X.b + IntKind.u64.wrap (NN * X.a)) + Y.b)), .int .u64 zc, .int .u64 zd] 25)).heap[w7.heap.size]? = some (.cells #[.int .u64 (IntKind.u64.wrap (X.a + Y.a)), .int .u64 (IntKind.u64.wrap (IntKind.u64.wrap (X.b + IntKind.u64.wrap (NN * X.a)) + Y.b)), .int .u64 zc, .int .u64 zd] 25 (0, 0)) := heap_alloc_to _ _ (by simp)
  obtain ⟨L, hL⟩ : ∃ L, xs3.set i v = L := ⟨_, rfl⟩
  rw [hL] at hOn hta hbS hlS
  have HTA := hid hta
  have HBS := hid hbS
  have HLS := hid hlS
  have HON := hid hOn
  have HF8 := hid hF8
  have HRZ := hid hrz
  have HBG := hid (show by_ < g from HBK3.out g (by simp [blk]))
  have cm : (mask != 0) = true := by simpa using c3z
  clear hx1 hx2 hx3 hv hv' hv3 hta hbS hlS hOn hF8 hrz hset hfz8 hfs hL hgz HO7
  go_wp2_with fail
  rw [HV3.out]
  obtain ⟨w8, hw8⟩ : ∃ w8, (w7.setCell ⟨g, i, none⟩ (.int .u8 v)).alloc (.cells #[.int .u64 (IntKind.u64.wrap (X.a + Y.a)), .int .u64 (IntKind.u64.wrap (IntKind.u64.wrap (X.b + IntKind.u64.wrap (NN * X.a)) + Y.b)), .int .u64 zc, .int .u64 zd] 25) = w8 := ⟨_, rfl⟩
  rw [hw8] at HON HF8 HRZ ⊢
  refine (of_fl (some ⟨g, 0, none⟩) n3 c3 L w8 HLS.out HCAP.out (Nat.le_trans hn3c (by decide)) HON.out.rd HBS.out).mono ?_
  rintro e w9 ⟨rfl, hf9⟩
  have hrz9 := hf9.heap HRZ.out (by simp)
  have hne := HTA.out
  rw [HZ.out] at hne
  simp only at hne
  obtain ⟨T, hT⟩ : ∃ T, fletch L = T := ⟨_, rfl⟩
  rw [hT] at hne ⊢
  have HT := hid hT
  unfold S4.arr
  obtain ⟨bz, hbz⟩ : ∃ bz, w7.heap.size = bz := ⟨_, rfl⟩
  have HBZ := hid hbz
  rw [hbz] at hrz9 ⊢
  have hltz := lt_of_heap hrz9
  have z0 : w9.cell? ⟨bz, 0, none⟩ = some (.int .u64 (IntKind.u64.wrap (X.a + Y.a))) := by rw [cell_of_row w9 _ _ _ _ _ hrz9]; rfl
  have z1 : w9.cell? ⟨bz, 1, none⟩ = some (.int .u64 (IntKind.u64.wrap (IntKind.u64.wrap (X.b + IntKind.u64.wrap (NN * X.a)) + Y.b))) := by rw [cell_of_row w9 _ _ _ _ _ hrz9]; rfl
  have z2 : w9.cell? ⟨bz, 2, none⟩ = some (.int .u64 zc) := by rw [cell_of_row w9 _ _ _ _ _ hrz9]; rfl
  have z3 : w9.cell? ⟨bz, 3, none⟩ = some (.int .u64 zd) := by rw [cell_of_row w9 _ _ _ _ _ hrz9]; rfl
  have hfT : Frm [] w9 (w9.alloc (.cells #[.int .u64 T.a, .int .u64 T.b, .int .u64 T.c, .int .u64 T.d] 25)) := (Frm.refl _ _).alloc _
  have HCH := hid (check_fl ⟨IntKind.u64.wrap (X.a + Y.a), IntKind.u64.wrap (IntKind.u64.wrap (X.b + IntKind.u64.wrap (NN * X.a)) + Y.b), zc, zd⟩ (some ⟨g, 0, none⟩) n3 c3 L (w9.alloc (.cells #[.int .u64 T.a, .int .u64 T.b, .int .u64 T.c, .int .u64 T.d] 25)) HLS.out HCAP.out (Nat.le_trans hn3c (by decide)) ((HON.out.kept hf9 (by simp)).kept hfT (by simp)).rd HBS.out)
  have HEQ : Hid ((fletch L).eqB ⟨IntKind.u64.wrap (X.a + Y.a), IntKind.u64.wrap (IntKind.u64.wrap (X.b + IntKind.u64.wrap (NN * X.a)) + Y.b), zc, zd⟩ = false) := hid (by
    rw [hT]
    simp [S4.eqB, hne])
  have HF9 : Hid (Frm [] w (w9.alloc (.cells #[.int .u64 T.a, .int .u64 T.b, .int .u64 T.c, .int .u64 T.d] 25))) := hid (((HF7.out.trans HF8.out (fun k hk hl => by simp at hk; have := HBG.out; have := HW3.out; omega)).trans hf9 (by simp)).trans hfT (by simp))
  clear hrz9 hf9 hfT hT hbz hw8 x0 x1 y0 y1 hce hfz
  go_wp2_with fail
  refine HCH.out.mono ?_
  rintro e w11 ⟨rfl, hf11⟩
  have HF11 := hid (HF9.out.trans hf11 (by simp))
  rw [HEQ.out]
  clear hf11
  go_wp2_with fail
  go_returns
  exact ⟨rfl, HF11.out⟩
end Go.Proofs.YtcnochabdhdlnaaDoor
