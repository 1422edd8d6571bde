/- Records: lists of records that are the same; streams there and back. Records: the law RecordBack. -/
import Derived.Test.YtajfjkfnmmfhmaaDoorQba
import Derived.Test.YtajfjkfnmmfhmaaDoorQbb
import Derived.Test.YtajfjkfnmmfhmaaDoorQav
namespace Go.Proofs.YtajfjkfnmmfhmaaDoor
section
open Go.RowKit Go.Lib
set_option maxRecDepth 100000

/-- Two records that say the same. -/
def rkSame (x y : Rk) : Prop := x.r.core = y.r.core ∧ x.P = y.P ∧ x.K = y.K ∧ x.D = y.D
theorem RdRk.at {w : World} {p : Option Addr} {L : List Rk} (h : RdRk w p L) {t : Nat} (ht : t < L.length) : ∃ g o, p = some ⟨g, o, none⟩ ∧ ((∀ j u, (rkA L t).r.arr[j]? = some u → w.cell? ⟨g, o + t * 13 + j, none⟩ = some u) ∧ RcOk w (rkA L t).r (rkA L t).P (rkA L t).K (rkA L t).D ∧ (rkA L t).r.name.size ≤ 140737488355328) := by
  have hget := rkA_get ht
  rcases h with h | ⟨g, o, he, hc⟩
  · rw [h] at hget; simp at hget
  · exact ⟨g, o, he, hc t _ hget⟩
set_option maxHeartbeats 12800000 in
theorem sameAll_any (p q : Option Addr) (n c d : Nat) (L M : List Rk) (w : World) (hl : L.length = n) (hm : M.length = n) (hn9 : n ≤ 9223372036854775807) (hp : RdRk w p L) (hq : RdRk w q M) (hs : ∀ j, j < n → rkSame (rkA L j) (rkA M j)) :
    Calls Tryd.prog 9 #[.slice p n c, .slice q n d] w fun e w' => e = .returned (.bool true) ∧ Frm [] w w' := by
  have HP := hid hp
  have HQ := hid hq
  have HL := hid hl
  have HM := hid hm
  have HS := hid hs
  clear hp hq hl hm hs
  have hb : ((n : Int) != (n : Int)) = false := by simp
  go_enter Tryd.func9, Tryd.ntmps9
  go_wp2_with fail
  clear hb
  go_loopw [5] (fun i wr => ∃ t : Nat, t ≤ n ∧ i = .int .i64 (t : Int) ∧ Hid (Frm [] w wr)) (fun i _ => n - (intOf i).toNat)
  case atStart => exact ⟨0, Nat.zero_le _, rfl, hid (Frm.refl _ _)⟩
  case round =>
    obtain ⟨t, ht, rfl, hf⟩ := hrel
    have HF := hid hf.out
    clear hf
    by_cases hlt : t < n
    case neg =>
      obtain rfl : t = n := by omega
      clear hlt
      go_wp2_with fail
      first | go_returns | skip
      exact ⟨rfl, HF.out⟩
    have t1 : (t : Int) < (n : Int) := by omega
    obtain ⟨g1, o1, rfl, hc1, hk1, _⟩ := (HP.out.k0 HF.out).at (t := t) (by rw [HL.out]; exact hlt)
    obtain ⟨g2, o2, rfl, hc2, hk2, _⟩ := (HQ.out.k0 HF.out).at (t := t) (by rw [HM.out]; exact hlt)
    obtain ⟨e1, e2, e3, e4⟩ := HS.out t hlt
    rw [← e2, ← e3, ← e4] at hk2
    have HSM := hid (fun W (hf : Frm [] wr W) => sameTrue_any (rkA L t).r (rkA M t).r (rkA L t).P (rkA L t).K (rkA L t).D W (hk1.k0 hf) (hk2.k0 hf) e1)
    obtain ⟨R1, hR1⟩ : ∃ z, (rkA L t).r = z := ⟨_, rfl⟩
    obtain ⟨R2, hR2⟩ : ∃ z, (rkA M t).r = z := ⟨_, rfl⟩
    rw [hR1] at hc1 HSM
    rw [hR2] at hc2 HSM
    have z0 : wr.cell? ⟨g1, o1 + t * 13, none⟩ = some (.int .i64 R1.kind) := hc1 0 _ rfl
    have z1 : wr.cell? ⟨g1, o1 + t * 13 + 1, none⟩ = some (.string R1.name) := hc1 1 _ rfl
    have z2 : wr.cell? ⟨g1, o1 + t * 13 + 2, none⟩ = some (.int .i64 R1.typ) := hc1 2 _ rfl
    have z3 : wr.cell? ⟨g1, o1 + t * 13 + 3, none⟩ = some (.int .i64 R1.frm) := hc1 3 _ rfl
    have z4 : wr.cell? ⟨g1, o1 + t * 13 + 4, none⟩ = some (.int .i64 R1.guid) := hc1 4 _ rfl
    have z5 : wr.cell? ⟨g1, o1 + t * 13 + 5, none⟩ = some (.int .i64 R1.origin) := hc1 5 _ rfl
    have z6 : wr.cell? ⟨g1, o1 + t * 13 + 6, none⟩ = some (.string R1.snap) := hc1 6 _ rfl
    have z7 : wr.cell? ⟨g1, o1 + t * 13 + 7, none⟩ = some (.slice R1.pp R1.pn R1.pc) := hc1 7 _ rfl
    have z8 : wr.cell? ⟨g1, o1 + t * 13 + 8, none⟩ = some (.int .i64 R1.obj) := hc1 8 _ rfl
    have z9 : wr.cell? ⟨g1, o1 + t * 13 + 9, none⟩ = some (.int .i64 R1.at_) := hc1 9 _ rfl
    have z10 : wr.cell? ⟨g1, o1 + t * 13 + 10, none⟩ = some (.int .i64 R1.many) := hc1 10 _ rfl
    have z11 : wr.cell? ⟨g1, o1 + t * 13 + 11, none⟩ = some (.slice R1.kp R1.kn R1.kc) := hc1 11 _ rfl
    have z12 : wr.cell? ⟨g1, o1 + t * 13 + 12, none⟩ = some (.slice R1.dp R1.dl R1.dc) := hc1 12 _ rfl
    have y0 : wr.cell? ⟨g2, o2 + t * 13, none⟩ = some (.int .i64 R2.kind) := hc2 0 _ rfl
    have y1 : wr.cell? ⟨g2, o2 + t * 13 + 1, none⟩ = some (.string R2.name) := hc2 1 _ rfl
    have y2 : wr.cell? ⟨g2, o2 + t * 13 + 2, none⟩ = some (.int .i64 R2.typ) := hc2 2 _ rfl
    have y3 : wr.cell? ⟨g2, o2 + t * 13 + 3, none⟩ = some (.int .i64 R2.frm) := hc2 3 _ rfl
    have y4 : wr.cell? ⟨g2, o2 + t * 13 + 4, none⟩ = some (.int .i64 R2.guid) := hc2 4 _ rfl
    have y5 : wr.cell? ⟨g2, o2 + t * 13 + 5, none⟩ = some (.int .i64 R2.origin) := hc2 5 _ rfl
    have y6 : wr.cell? ⟨g2, o2 + t * 13 + 6, none⟩ = some (.string R2.snap) := hc2 6 _ rfl
    have y7 : wr.cell? ⟨g2, o2 + t * 13 + 7, none⟩ = some (.slice R2.pp R2.pn R2.pc) := hc2 7 _ rfl
    have y8 : wr.cell? ⟨g2, o2 + t * 13 + 8, none⟩ = some (.int .i64 R2.obj) := hc2 8 _ rfl
    have y9 : wr.cell? ⟨g2, o2 + t * 13 + 9, none⟩ = some (.int .i64 R2.at_) := hc2 9 _ rfl
    have y10 : wr.cell? ⟨g2, o2 + t * 13 + 10, none⟩ = some (.int .i64 R2.many) := hc2 10 _ rfl
    have y11 : wr.cell? ⟨g2, o2 + t * 13 + 11, none⟩ = some (.slice R2.kp R2.kn R2.kc) := hc2 11 _ rfl
    have y12 : wr.cell? ⟨g2, o2 + t * 13 + 12, none⟩ = some (.slice R2.dp R2.dl R2.dc) := hc2 12 _ rfl
    clear hc1 hc2 hk1 hk2 e1 e2 e3 e4 hR1 hR2
    obtain ⟨a0, a1, a2, a3, a4, a5, a6, a7, a8, a9, a10, a11, a12, a13, a14, a15, a16, a17, a18⟩ := R1
    obtain ⟨b0, b1, b2, b3, b4, b5, b6, b7, b8, b9, b10, b11, b12, b13, b14, b15, b16, b17, b18⟩ := R2
    unfold Rc.arr at HSM
    simp only at HSM z0 z1 z2 z3 z4 z5 z6 z7 z8 z9 z10 z11 z12 y0 y1 y2 y3 y4 y5 y6 y7 y8 y9 y10 y11 y12
    go_upto_region 6 with fail
    have HFD : Hid (Frm [] wr wr.drew) := hid ((Frm.refl [] wr).drew)
    have hs0 : wr.drew.cell? ⟨g1, o1 + t * 13, none⟩ = some (.int .i64 a0) ∧ wr.drew.cell? ⟨g1, o1 + t * 13 + 1, none⟩ = some (.string a1) ∧ wr.drew.cell? ⟨g1, o1 + t * 13 + 2, none⟩ = some (.int .i64 a2) ∧ wr.drew.cell? ⟨g1, o1 + t * 13 + 3, none⟩ = some (.int .i64 a3) ∧ wr.drew.cell? ⟨g1, o1 + t * 13 + 4, none⟩ = some (.int .i64 a4) ∧ wr.drew.cell? ⟨g1, o1 + t * 13 + 5, none⟩ = some (.int .i64 a5) ∧ wr.drew.cell? ⟨g1, o1 + t * 13 + 6, none⟩ = some (.string a6) ∧ wr.drew.cell? ⟨g1, o1 + t * 13 + 7, none⟩ = some (.slice a7 a8 a9) ∧ wr.drew.cell? ⟨g1, o1 + t * 13 + 8, none⟩ = some (.int .i64 a10) ∧ wr.drew.cell? ⟨g1, o1 + t * 13 + 9, none⟩ = some (.int .i64 a11) ∧ wr.drew.cell? ⟨g1, o1 + t * 13 + 10, none⟩ = some (.int .i64 a12) ∧ wr.drew.cell? ⟨g1, o1 + t * 13 + 11, none⟩ = some (.slice a13 a14 a15) ∧ wr.drew.cell? ⟨g1, o1 + t * 13 + 12, none⟩ = some (.slice a16 a17 a18) ∧ wr.drew.cell? ⟨g2, o2 + t * 13, none⟩ = some (.int .i64 b0) ∧ wr.drew.cell? ⟨g2, o2 + t * 13 + 1, none⟩ = some (.string b1) ∧ wr.drew.cell? ⟨g2, o2 + t * 13 + 2, none⟩ = some (.int .i64 b2) ∧ wr.drew.cell? ⟨g2, o2 + t * 13 + 3, none⟩ = some (.int .i64 b3) ∧ wr.drew.cell? ⟨g2, o2 + t * 13 + 4, none⟩ = some (.int .i64 b4) ∧ wr.drew.cell? ⟨g2, o2 + t * 13 + 5, none⟩ = some (.int .i64 b5) ∧ wr.drew.cell? ⟨g2, o2 + t * 13 + 6, none⟩ = some (.string b6) ∧ wr.drew.cell? ⟨g2, o2 + t * 13 + 7, none⟩ = some (.slice b7 b8 b9) ∧ wr.drew.cell? ⟨g2, o2 + t * 13 + 8, none⟩ = some (.int .i64 b10) ∧ wr.drew.cell? ⟨g2, o2 + t * 13 + 9, none⟩ = some (.int .i64 b11) ∧ wr.drew.cell? ⟨g2, o2 + t * 13 + 10, none⟩ = some (.int .i64 b12) ∧ wr.drew.cell? ⟨g2, o2 + t * 13 + 11, none⟩ = some (.slice b13 b14 b15) ∧ wr.drew.cell? ⟨g2, o2 + t * 13 + 12, none⟩ = some (.slice b16 b17 b18) := ⟨z0, z1, z2, z3, z4, z5, z6, z7, z8, z9, z10, z11, z12, y0, y1, y2, y3, y4, y5, y6, y7, y8, y9, y10, y11, y12⟩
    refine wp_region_tail (S := fun W => (W.cell? ⟨g1, o1 + t * 13, none⟩ = some (.int .i64 a0) ∧ W.cell? ⟨g1, o1 + t * 13 + 1, none⟩ = some (.string a1) ∧ W.cell? ⟨g1, o1 + t * 13 + 2, none⟩ = some (.int .i64 a2) ∧ W.cell? ⟨g1, o1 + t * 13 + 3, none⟩ = some (.int .i64 a3) ∧ W.cell? ⟨g1, o1 + t * 13 + 4, none⟩ = some (.int .i64 a4) ∧ W.cell? ⟨g1, o1 + t * 13 + 5, none⟩ = some (.int .i64 a5) ∧ W.cell? ⟨g1, o1 + t * 13 + 6, none⟩ = some (.string a6) ∧ W.cell? ⟨g1, o1 + t * 13 + 7, none⟩ = some (.slice a7 a8 a9) ∧ W.cell? ⟨g1, o1 + t * 13 + 8, none⟩ = some (.int .i64 a10) ∧ W.cell? ⟨g1, o1 + t * 13 + 9, none⟩ = some (.int .i64 a11) ∧ W.cell? ⟨g1, o1 + t * 13 + 10, none⟩ = some (.int .i64 a12) ∧ W.cell? ⟨g1, o1 + t * 13 + 11, none⟩ = some (.slice a13 a14 a15) ∧ W.cell? ⟨g1, o1 + t * 13 + 12, none⟩ = some (.slice a16 a17 a18) ∧ W.cell? ⟨g2, o2 + t * 13, none⟩ = some (.int .i64 b0) ∧ W.cell? ⟨g2, o2 + t * 13 + 1, none⟩ = some (.string b1) ∧ W.cell? ⟨g2, o2 + t * 13 + 2, none⟩ = some (.int .i64 b2) ∧ W.cell? ⟨g2, o2 + t * 13 + 3, none⟩ = some (.int .i64 b3) ∧ W.cell? ⟨g2, o2 + t * 13 + 4, none⟩ = some (.int .i64 b4) ∧ W.cell? ⟨g2, o2 + t * 13 + 5, none⟩ = some (.int .i64 b5) ∧ W.cell? ⟨g2, o2 + t * 13 + 6, none⟩ = some (.string b6) ∧ W.cell? ⟨g2, o2 + t * 13 + 7, none⟩ = some (.slice b7 b8 b9) ∧ W.cell? ⟨g2, o2 + t * 13 + 8, none⟩ = some (.int .i64 b10) ∧ W.cell? ⟨g2, o2 + t * 13 + 9, none⟩ = some (.int .i64 b11) ∧ W.cell? ⟨g2, o2 + t * 13 + 10, none⟩ = some (.int .i64 b12) ∧ W.cell? ⟨g2, o2 + t * 13 + 11, none⟩ = some (.slice b13 b14 b15) ∧ W.cell? ⟨g2, o2 + t * 13 + 12, none⟩ = some (.slice b16 b17 b18))) 9 10 rfl (by kernel_rfl) (by kernel_rfl) ?_
    refine wpAnyHT_take (i := 0) (oi := _) (v := ?_) (by kernel_rfl) rfl (by kernel_rfl) (by kernel_rfl) (by kernel_rfl) (by kernel_rfl) (fun _ _ _ h => h) (Or.inl ⟨by rfl, ?_⟩) hs0 ?_
    rotate_left 1
    · (intro W hSw; obtain ⟨s0, s1, s2, s3, s4, s5, s6, s7, s8, s9, s10, s11, s12, r0, r1, r2, r3, r4, r5, r6, r7, r8, r9, r10, r11, r12⟩ := hSw; (try simp only [List.getElem_toArray, List.getElem_cons_zero]); go_simp; try with_reducible rfl)
    try simp only [List.getElem_toArray, List.getElem_cons_zero, Act.put, List.setIfInBounds_toArray, List.set_cons_zero, List.set_cons_succ]
    refine wpAnyHT_take (i := 1) (oi := _) (v := ?_) (by kernel_rfl) rfl (by kernel_rfl) (by kernel_rfl) (by kernel_rfl) (by kernel_rfl) (fun _ _ _ h => h) (Or.inl ⟨by rfl, ?_⟩) hs0 ?_
    rotate_left 1
    · (intro W hSw; obtain ⟨s0, s1, s2, s3, s4, s5, s6, s7, s8, s9, s10, s11, s12, r0, r1, r2, r3, r4, r5, r6, r7, r8, r9, r10, r11, r12⟩ := hSw; (try simp only [List.getElem_toArray, List.getElem_cons_succ, List.getElem_cons_zero]); go_simp; try with_reducible rfl)
    try simp only [List.getElem_toArray, List.getElem_cons_succ, List.getElem_cons_zero, Act.put, List.setIfInBounds_toArray, List.set_cons_zero, List.set_cons_succ]
    refine wpAnyHT_take (i := 2) (oi := _) (v := ?_) (by kernel_rfl) rfl (by kernel_rfl) (by kernel_rfl) (by kernel_rfl) (by kernel_rfl) (fun _ _ _ h => h) (Or.inl ⟨by rfl, ?_⟩) hs0 ?_
    rotate_left 1
    · (intro W hSw; obtain ⟨s0, s1, s2, s3, s4, s5, s6, s7, s8, s9, s10, s11, s12, r0, r1, r2, r3, r4, r5, r6, r7, r8, r9, r10, r11, r12⟩ := hSw; (try simp only [List.getElem_toArray, List.getElem_cons_succ, List.getElem_cons_zero]); go_simp; try with_reducible rfl)
    try simp only [List.getElem_toArray, List.getElem_cons_succ, List.getElem_cons_zero, Act.put, List.setIfInBounds_toArray, List.set_cons_zero, List.set_cons_succ]
    refine wpAnyHT_take (i := 3) (oi := _) (v := ?_) (by kernel_rfl) rfl (by kernel_rfl) (by kernel_rfl) (by kernel_rfl) (by kernel_rfl) (fun _ _ _ h => h) (Or.inl ⟨by rfl, ?_⟩) hs0 ?_
    rotate_left 1
    · (intro W hSw; obtain ⟨s0, s1, s2, s3, s4, s5, s6, s7, s8, s9, s10, s11, s12, r0, r1, r2, r3, r4, r5, r6, r7, r8, r9, r10, r11, r12⟩ := hSw; (try simp only [List.getElem_toArray, List.getElem_cons_succ, List.getElem_cons_zero]); go_simp; try with_reducible rfl)
    try simp only [List.getElem_toArray, List.getElem_cons_succ, List.getElem_cons_zero, Act.put, List.setIfInBounds_toArray, List.set_cons_zero, List.set_cons_succ]
    refine wpAnyHT_take (i := 4) (oi := _) (v := ?_) (by kernel_rfl) rfl (by kernel_rfl) (by kernel_rfl) (by kernel_rfl) (by kernel_rfl) (fun _ _ _ h => h) (Or.inl ⟨by rfl, ?_⟩) hs0 ?_
    rotate_left 1
    · (intro W hSw; obtain ⟨s0, s1, s2, s3, s4, s5, s6, s7, s8, s9, s10, s11, s12, r0, r1, r2, r3, r4, r5, r6, r7, r8, r9, r10, r11, r12⟩ := hSw; (try simp only [List.getElem_toArray, List.getElem_cons_succ, List.getElem_cons_zero]); go_simp; try with_reducible rfl)
    try simp only [List.getElem_toArray, List.getElem_cons_succ, List.getElem_cons_zero, Act.put, List.setIfInBounds_toArray, List.set_cons_zero, List.set_cons_succ]
    refine wpAnyHT_take (i := 5) (oi := _) (v := ?_) (by kernel_rfl) rfl (by kernel_rfl) (by kernel_rfl) (by kernel_rfl) (by kernel_rfl) (fun _ _ _ h => h) (Or.inl ⟨by rfl, ?_⟩) hs0 ?_
    rotate_left 1
    · (intro W hSw; obtain ⟨s0, s1, s2, s3, s4, s5, s6, s7, s8, s9, s10, s11, s12, r0, r1, r2, r3, r4, r5, r6, r7, r8, r9, r10, r11, r12⟩ := hSw; (try simp only [List.getElem_toArray, List.getElem_cons_succ, List.getElem_cons_zero]); go_simp; try with_reducible rfl)
    try simp only [List.getElem_toArray, List.getElem_cons_succ, List.getElem_cons_zero, Act.put, List.setIfInBounds_toArray, List.set_cons_zero, List.set_cons_succ]
    refine wpAnyHT_take (i := 6) (oi := _) (v := ?_) (by kernel_rfl) rfl (by kernel_rfl) (by kernel_rfl) (by kernel_rfl) (by kernel_rfl) (fun _ _ _ h => h) (Or.inl ⟨by rfl, ?_⟩) hs0 ?_
    rotate_left 1
    · (intro W hSw; obtain ⟨s0, s1, s2, s3, s4, s5, s6, s7, s8, s9, s10, s11, s12, r0, r1, r2, r3, r4, r5, r6, r7, r8, r9, r10, r11, r12⟩ := hSw; (try simp only [List.getElem_toArray, List.getElem_cons_succ, List.getElem_cons_zero]); go_simp; try with_reducible rfl)
    try simp only [List.getElem_toArray, List.getElem_cons_succ, List.getElem_cons_zero, Act.put, List.setIfInBounds_toArray, List.set_cons_zero, List.set_cons_succ]
    refine wpAnyHT_take (i := 7) (oi := _) (v := ?_) (by kernel_rfl) rfl (by kernel_rfl) (by kernel_rfl) (by kernel_rfl) (by kernel_rfl) (fun _ _ _ h => h) (Or.inl ⟨by rfl, ?_⟩) hs0 ?_
    rotate_left 1
    · (intro W hSw; obtain ⟨s0, s1, s2, s3, s4, s5, s6, s7, s8, s9, s10, s11, s12, r0, r1, r2, r3, r4, r5, r6, r7, r8, r9, r10, r11, r12⟩ := hSw; (try simp only [List.getElem_toArray, List.getElem_cons_succ, List.getElem_cons_zero]); go_simp; try with_reducible rfl)
    try simp only [List.getElem_toArray, List.getElem_cons_succ, List.getElem_cons_zero, Act.put, List.setIfInBounds_toArray, List.set_cons_zero, List.set_cons_succ]
    refine wpAnyHT_one (i := 8) rfl (by kernel_rfl) (by kernel_rfl) (fun K hK => ?_)
    try simp only [List.getElem_toArray, List.getElem_cons_succ, List.getElem_cons_zero]
    go_simp
    refine (HSM.out _ HFD.out).mono ?_
    rintro e w5 ⟨rfl, hf5⟩
    have hs5 : w5.cell? ⟨g1, o1 + t * 13, none⟩ = some (.int .i64 a0) ∧ w5.cell? ⟨g1, o1 + t * 13 + 1, none⟩ = some (.string a1) ∧ w5.cell? ⟨g1, o1 + t * 13 + 2, none⟩ = some (.int .i64 a2) ∧ w5.cell? ⟨g1, o1 + t * 13 + 3, none⟩ = some (.int .i64 a3) ∧ w5.cell? ⟨g1, o1 + t * 13 + 4, none⟩ = some (.int .i64 a4) ∧ w5.cell? ⟨g1, o1 + t * 13 + 5, none⟩ = some (.int .i64 a5) ∧ w5.cell? ⟨g1, o1 + t * 13 + 6, none⟩ = some (.string a6) ∧ w5.cell? ⟨g1, o1 + t * 13 + 7, none⟩ = some (.slice a7 a8 a9) ∧ w5.cell? ⟨g1, o1 + t * 13 + 8, none⟩ = some (.int .i64 a10) ∧ w5.cell? ⟨g1, o1 + t * 13 + 9, none⟩ = some (.int .i64 a11) ∧ w5.cell? ⟨g1, o1 + t * 13 + 10, none⟩ = some (.int .i64 a12) ∧ w5.cell? ⟨g1, o1 + t * 13 + 11, none⟩ = some (.slice a13 a14 a15) ∧ w5.cell? ⟨g1, o1 + t * 13 + 12, none⟩ = some (.slice a16 a17 a18) ∧ w5.cell? ⟨g2, o2 + t * 13, none⟩ = some (.int .i64 b0) ∧ w5.cell? ⟨g2, o2 + t * 13 + 1, none⟩ = some (.string b1) ∧ w5.cell? ⟨g2, o2 + t * 13 + 2, none⟩ = some (.int .i64 b2) ∧ w5.cell? ⟨g2, o2 + t * 13 + 3, none⟩ = some (.int .i64 b3) ∧ w5.cell? ⟨g2, o2 + t * 13 + 4, none⟩ = some (.int .i64 b4) ∧ w5.cell? ⟨g2, o2 + t * 13 + 5, none⟩ = some (.int .i64 b5) ∧ w5.cell? ⟨g2, o2 + t * 13 + 6, none⟩ = some (.string b6) ∧ w5.cell? ⟨g2, o2 + t * 13 + 7, none⟩ = some (.slice b7 b8 b9) ∧ w5.cell? ⟨g2, o2 + t * 13 + 8, none⟩ = some (.int .i64 b10) ∧ w5.cell? ⟨g2, o2 + t * 13 + 9, none⟩ = some (.int .i64 b11) ∧ w5.cell? ⟨g2, o2 + t * 13 + 10, none⟩ = some (.int .i64 b12) ∧ w5.cell? ⟨g2, o2 + t * 13 + 11, none⟩ = some (.slice b13 b14 b15) ∧ w5.cell? ⟨g2, o2 + t * 13 + 12, none⟩ = some (.slice b16 b17 b18) := by
      have k : ∀ a v, wr.drew.cell? a = some v → w5.cell? a = some v := fun a v h => (hf5.cell (World.block_lt_of_cell? _ _ h) (by simp)).trans h
      exact ⟨k _ _ z0, k _ _ z1, k _ _ z2, k _ _ z3, k _ _ z4, k _ _ z5, k _ _ z6, k _ _ z7, k _ _ z8, k _ _ z9, k _ _ z10, k _ _ z11, k _ _ z12, k _ _ y0, k _ _ y1, k _ _ y2, k _ _ y3, k _ _ y4, k _ _ y5, k _ _ y6, k _ _ y7, k _ _ y8, k _ _ y9, k _ _ y10, k _ _ y11, k _ _ y12⟩
    refine hK _ _ hs5 ?_
    clear hK K hs5 hs0
    refine wpAnyHT_end (by kernel_rfl) ?_
    simp only [List.drop_succ_cons, List.drop_zero]
    have HFX : Hid (Frm [] w w5) := hid ((HF.out.trans HFD.out (by simp)).trans hf5 (by simp))
    clear hf5 HSM z0 z1 z2 z3 z4 z5 z6 z7 z8 z9 z10 z11 z12 y0 y1 y2 y3 y4 y5 y6 y7 y8 y9 y10 y11 y12
    go_wp2_with fail
    go_roundw
    case rel => exact ⟨t + 1, by omega, by go_num, HFX⟩
    case measure => first | (simp [intOf]; done) | (simp [intOf]; omega)
/-- What a stream of records that may be says, as far as it goes. -/
theorem strB_pre (L : List Rk) : ∀ n t, t ≤ n → ∃ r, strB L n = strB L t ++ r
  | 0, t, h => by rw [show t = 0 by omega]; exact ⟨[], by simp⟩
  | n + 1, t, h => by
    by_cases ht : t = n + 1
    · rw [ht]; exact ⟨[], by simp⟩
    · obtain ⟨r, hr⟩ := strB_pre L n t (by omega)
      rw [strB]
      split
      · rw [hr]; exact ⟨r ++ recB (strS L n) (rkA L n).r (rkA L n).P (rkA L n).K (rkA L n).D, by rw [List.append_assoc]⟩
      · exact ⟨r, hr⟩
theorem stream_back {L : List Rk} (hm : allMay L) (hk : ∀ j, j < L.length → (rkA L j).P.length = (rkA L j).r.pn ∧ (rkA L j).K.length = (rkA L j).r.kn ∧ (rkA L j).D.length = (rkA L j).r.dl) (hc : (strB L L.length).length ≤ 1048576) :
    ∀ t, t ≤ L.length → rsS (strB L L.length) t = ((strB L L.length).drop (strB L t).length, strS L t) ∧ (∀ j, j < t → (rsS (strB L L.length) j).1 ≠ [] ∧ dcE (rsS (strB L L.length) j).2 (rsS (strB L L.length) j).1 = 0 ∧ ∀ x : Rk, rkOf (strB L L.length) j x → rkSame (rkA L j) x)
  | 0, _ => ⟨by simp [rsS, strS, strB], fun j hj => by omega⟩
  | t + 1, ht => by
    obtain ⟨ih1, ih2⟩ := stream_back hm hk hc t (by omega)
    obtain ⟨k1, k2, k3⟩ := hk t (by omega)
    have hmt := hm t (by omega)
    obtain ⟨r0, hr0⟩ := strB_pre L L.length t (by omega)
    obtain ⟨r1, hr1⟩ := strB_pre L L.length (t + 1) ht
    have hcap : (strB L t).length ≤ 1048576 := by
      have := congrArg List.length hr0
      rw [List.length_append] at this
      omega
    have hB : strB L (t + 1) = strB L t ++ recB (strS L t) (rkA L t).r (rkA L t).P (rkA L t).K (rkA L t).D := by rw [strB, if_pos hcap]
    obtain ⟨RB, hRB⟩ : ∃ z, recB (strS L t) (rkA L t).r (rkA L t).P (rkA L t).K (rkA L t).D = z := ⟨_, rfl⟩
    have hd : (strB L L.length).drop (strB L t).length = RB ++ r1 := by
      rw [hr1, hB, hRB, List.append_assoc, List.drop_append_of_le_length (Nat.le_refl _), List.drop_length, List.nil_append]
    have hE := dec_back (strS L t) r1 hmt k1 k2 k3
    obtain ⟨o1, o2, o3, o4, o5, o6⟩ := dec_of (a := strS L t) r1 hmt k1 k2 k3
    rw [hRB] at hE o1 o2 o3 o4 o5 o6
    have hlen : RB.length = 37 + (bodyR (rkA L t).r (rkA L t).P (rkA L t).K (rkA L t).D).length := by rw [← hRB]; exact recL_len _ _ _
    refine ⟨?_, fun j hj => ?_⟩
    · rw [rsS, ih1]
      simp only
      rw [hd, o2, show (37 + spM (RB ++ r1)).toNat = RB.length by omega, List.drop_append_of_le_length (Nat.le_refl _), List.drop_length, List.nil_append]
      congr 1
      rw [hr1, List.drop_append_of_le_length (Nat.le_refl _), List.drop_length, List.nil_append]
    · by_cases hj2 : j < t
      · exact ih2 j hj2
      · obtain rfl : j = t := by omega
        rw [ih1]
        simp only
        rw [hd]
        refine ⟨fun h => ?_, hE, fun x hx => ?_⟩
        · have h2 := congrArg List.length h
          rw [List.length_append, hlen, List.length_nil] at h2
          omega
        · unfold rkOf at hx
          rw [ih1] at hx
          simp only at hx
          rw [hd, o3, o4, o5, o6] at hx
          exact ⟨hx.1.symm, hx.2.1.symm, hx.2.2.1.symm, hx.2.2.2.symm⟩
/-- What is taken up of bytes, laid down, is the bytes. -/
theorem bytes_back {bs : List Int} (hb : ∀ z ∈ bs, 0 ≤ z ∧ z < 256) (hc : bs.length ≤ 1048576) {N : List Rk} (hok : rsOk bs N.length) (hN : ∀ j, j < N.length → rkOf bs j (rkA N j)) (hk : ∀ j, j < N.length → (rkA N j).P.length = (rkA N j).r.pn ∧ (rkA N j).K.length = (rkA N j).r.kn ∧ (rkA N j).D.length = (rkA N j).r.dl) :
    ∀ t, t ≤ N.length → strB N t ++ (rsS bs t).1 = bs ∧ strS N t = (rsS bs t).2 ∧ ∀ j, j < t → (rkA N j).may
  | 0, _ => ⟨rfl, rfl, fun j hj => by omega⟩
  | t + 1, ht => by
    obtain ⟨ih1, ih2, ih3⟩ := bytes_back hb hc hok hN hk t (by omega)
    obtain ⟨k1, k2, k3⟩ := hk t (by omega)
    obtain ⟨c1, c2, c3, c4⟩ := hN t (by omega)
    have hE := (hok t (by omega)).2
    have hbt := rsS_bd hb t
    have hinv := dec_inv hbt hE c1 (by rw [← c2]; exact k1.symm) (by rw [← c3]; exact k2.symm) (by rw [← c4]; exact k3.symm)
    rw [← c2, ← c3, ← c4, ← ih2] at hinv
    obtain ⟨m1, m2, m3⟩ := hinv
    have hcap : (strB N t).length ≤ 1048576 := by
      have := congrArg List.length ih1
      rw [List.length_append] at this
      omega
    refine ⟨?_, ?_, fun j hj => ?_⟩
    · rw [strB, if_pos hcap, m2, rsS]
      simp only
      rw [List.append_assoc, List.take_append_drop]
      exact ih1
    · rw [strS, rsS, m3, ih2]
    · by_cases hj2 : j < t
      · exact ih3 j hj2
      · obtain rfl : j = t := by omega
        exact m1
end
section
open Go.RowKit Go.Lib
set_option maxRecDepth 100000

theorem stream_nil (w : World) (hpr : Primes w) : Calls Tryd.prog 7 #[.slice none 0 0] w fun e w' => Frm [] w w' ∧ ∃ p n c h, e = .returned (.tuple #[.slice p n c, .int .i64 h]) := by
  refine (stream_any none 0 0 [] w rfl (by omega) (Or.inl rfl) hpr).mono ?_
  rintro e w' ⟨hf, h⟩
  refine ⟨hf, ?_⟩
  rcases h with ⟨_, rfl⟩ | ⟨_, _, rfl⟩ | ⟨_, _, p, n, c, rfl, _⟩
  · exact ⟨_, _, _, _, rfl⟩
  · exact ⟨_, _, _, _, rfl⟩
  · exact ⟨_, _, _, _, rfl⟩
theorem stream_good (p : Option Addr) (n c : Nat) (L : List Rk) (w : World) (hn : L.length = n) (hn9 : n ≤ 9223372036854775807) (hrd : RdRk w p L) (hpr : Primes w) (hm : allMay L) (hc : (strB L L.length).length ≤ 1048576) :
    Calls Tryd.prog 7 #[.slice p n c] w fun e w' => Frm [] w w' ∧ ∃ p n c, e = .returned (.tuple #[.slice p n c, .int .i64 0]) ∧ n = (strB L L.length).length ∧ Own w' 5 (.slice p n c) (strB L L.length) := by
  refine (stream_any p n c L w hn hn9 hrd hpr).mono ?_
  rintro e w' ⟨hf, h⟩
  refine ⟨hf, ?_⟩
  rcases h with ⟨h1, rfl⟩ | ⟨_, h1, rfl⟩ | ⟨_, _, p, n, c, rfl, h1, h2, _⟩
  · exact absurd hm h1
  · omega
  · exact ⟨_, _, _, rfl, h1, h2⟩
theorem RdRk.lens {w : World} {p : Option Addr} {L : List Rk} (h : RdRk w p L) : ∀ j, j < L.length → (rkA L j).P.length = (rkA L j).r.pn ∧ (rkA L j).K.length = (rkA L j).r.kn ∧ (rkA L j).D.length = (rkA L j).r.dl := fun j hj => by
  obtain ⟨g, o, _, _, hk, _⟩ := h.at hj
  exact ⟨hk.pl, hk.kl, hk.dn⟩
theorem strB_bd {w : World} {p : Option Addr} {L : List Rk} (h : RdRk w p L) : ∀ t, t ≤ L.length → ∀ z ∈ strB L t, 0 ≤ z ∧ z < 256
  | 0, _ => by simp [strB]
  | t + 1, ht => fun z hz => by
    obtain ⟨g, o, _, _, hk, _⟩ := h.at (t := t) (by omega)
    rw [strB] at hz
    split at hz
    · rcases List.mem_append.1 hz with h1 | h1
      · exact strB_bd h t (by omega) z h1
      · exact recB_bd hk.db z h1
    · exact strB_bd h t (by omega) z hz
/-- What was taken up of bytes may be laid down, and gives the bytes. -/
theorem back_bytes {bs : List Int} (hb : ∀ z ∈ bs, 0 ≤ z ∧ z < 256) (hc : bs.length ≤ 1048576) {N : List Rk} (hok : rsOk bs N.length) (hN : ∀ j, j < N.length → rkOf bs j (rkA N j)) {w : World} {p : Option Addr} (hr : RdRk w p N) (hnil : (rsS bs N.length).1 = []) : allMay N ∧ strB N N.length = bs := by
  obtain ⟨h1, _, h3⟩ := bytes_back hb hc hok hN hr.lens N.length (Nat.le_refl _)
  rw [hnil, List.append_nil] at h1
  exact ⟨h3, h1⟩
/-- The records that are taken up of a stream are those that were laid down. -/
theorem records_back (p : Option Addr) (n c : Nat) (L : List Rk) (w w0 : World) (q : Option Addr) (hr : RdRk w0 q L) (hm : allMay L) (hc : (strB L L.length).length ≤ 1048576) (hn : n = (strB L L.length).length) (hnc : n ≤ c) (hrd : Rd w p (strB L L.length)) (hb : ∀ z ∈ strB L L.length, 0 ≤ z ∧ z < 256) (hpr : Primes w) :
    Calls Tryd.prog 8 #[.slice p n c] w fun e w' => Frm [] w w' ∧ ∃ p c M, e = .returned (.tuple #[.slice p L.length c, .int .i64 0]) ∧ M.length = L.length ∧ RdRk w' p M ∧ ∀ j, j < L.length → rkSame (rkA L j) (rkA M j) := by
  refine (records_any p n c (strB L L.length) w hn.symm hnc (by omega) hrd hb hpr).mono ?_
  rintro e w' ⟨hf, h⟩
  refine ⟨hf, ?_⟩
  have hall := stream_back hm hr.lens hc
  have hend := (hall L.length (Nat.le_refl _)).1
  rcases h with ⟨h1, _⟩ | ⟨_, k, hok, h⟩
  · omega
  have hkl : k ≤ L.length := by
    rcases Nat.lt_or_ge L.length k with h1 | h1
    · have h2 := (hok L.length h1).1
      rw [hend, List.drop_length] at h2
      exact absurd rfl h2
    · exact h1
  have hkeq : k < L.length → (rsS (strB L L.length) k).1 ≠ [] ∧ dcE (rsS (strB L L.length) k).2 (rsS (strB L L.length) k).1 = 0 := fun h1 => by
    obtain ⟨h2, h3, _⟩ := (hall L.length (Nat.le_refl _)).2 k h1
    exact ⟨h2, h3⟩
  rcases h with ⟨h1, h2, _⟩ | ⟨h1, p', c', M, rfl, hM, h9, hrM, hrk⟩
  · rcases Nat.lt_or_ge k L.length with h3 | h3
    · exact absurd (hkeq h3).2 h2
    · obtain rfl : k = L.length := by omega
      rw [hend, List.drop_length] at h1
      exact absurd rfl h1
  · have hk : k = L.length := by
      rcases Nat.lt_or_ge k L.length with h3 | h3
      · exact absurd h1 (hkeq h3).1
      · omega
    subst hk
    exact ⟨p', c', M, rfl, hM, hrM, fun j hj => ((hall _ (Nat.le_refl _)).2 j hj).2.2 _ (hrk j hj)⟩
set_option maxHeartbeats 25600000 in
theorem recordBack_any (p : Option Addr) (n c : Nat) (L : List Rk) (q : Option Addr) (m d : Nat) (BS : List Int) (w : World) (hn : L.length = n) (hn9 : n ≤ 9223372036854775807) (hrd : RdRk w p L) (hm : BS.length = m) (hmd : m ≤ d) (hm9 : m ≤ 140737488355328) (hrb : Rd w q BS) (hb : ∀ z ∈ BS, 0 ≤ z ∧ z < 256) (hpr : Primes w) :
    Calls Tryd.prog 3 #[.slice p n c, .slice q m d] w fun e w' => e = .returned (.bool true) ∧ Frm [] w w' := by
  have HLN := hid hn
  have HN9 := hid hn9
  have HRD := hid (fun W (hf : Frm [] w W) => hrd.k0 hf)
  have HRD0 := hid hrd
  have HRDB := hid hrb
  have HBL := hid hm
  have HBB := hid hb
  have HPR := hid (fun W (hf : Frm [] w W) => hpr.kept hf)
  have HRB := hid (fun W (hf : Frm [] w W) => records_any q m d BS W hm hmd hm9 (hrb.kept hf (by simp)) hb (hpr.kept hf))
  have HAW := hid (awake20_any w hpr)
  clear hn hrd hm hmd hm9 hrb hb hpr
  go_enter Tryd.func3, Tryd.ntmps3
  go_wp2_with fail
  refine HAW.out.mono ?_
  rintro e w1 ⟨rfl, hf1⟩
  have HF1 := hid hf1
  clear hf1 HAW
  go_wp2_with fail
  go_loopw [6, 7] (fun mv i wr => ∃ (t : Nat) (B : Bool), t ≤ n ∧ mv = .bool B ∧ i = .int .i64 (t : Int) ∧ Hid (B = true ↔ ∀ j, j < t → (rkA L j).may) ∧ Hid (Frm [] w wr)) (fun _ i _ => n - (intOf i).toNat)
  case atStart => exact ⟨0, true, Nat.zero_le _, rfl, rfl, hid ⟨fun _ j hj => by omega, fun _ => rfl⟩, HF1⟩
  case round =>
    obtain ⟨t, B, ht, rfl, rfl, hmy, hf⟩ := hrel
    have HMY := hid hmy.out
    have HF := hid hf.out
    clear hmy hf
    by_cases hlt : t < n
    case neg =>
      obtain rfl : t = n := by omega
      have HAM : Hid (B = true ↔ allMay L) := hid (by rw [HMY.out, ← HLN.out]; exact Iff.rfl)
      clear hlt ht
      go_wp2_with fail
      refine (stream_any p t c L wr HLN.out HN9.out (HRD.out wr HF.out) (HPR.out wr HF.out)).mono ?_
      rintro e wt ⟨hft, h⟩
      have HFT : Hid (Frm [] w wt) := hid (HF.out.trans hft (by simp))
      rcases h with ⟨hna, rfl⟩ | ⟨ham, hlong, rfl⟩ | ⟨ham, hshort, sp, sn, sc, rfl, hsn, how, hbk⟩
      · obtain rfl : B = false := by
          cases B with
          | false => rfl
          | true => exact absurd (HAM.out.1 rfl) hna
        clear hna hft
        go_wp2_with fail
        refine (HRB.out wt HFT.out).mono ?_
        rintro e w4 ⟨hf4, h4⟩
        have HF4 : Hid (Frm [] w w4) := hid (HFT.out.trans hf4 (by simp))
        rcases h4 with ⟨h5, rfl⟩ | ⟨h5, k, hok, (⟨hne, hE, rfl⟩ | ⟨hnil, np, nc, N, rfl, hNl, hk9, hrdN, hrkN⟩)⟩
        · clear hf4 h5
          go_wp2_with fail
          refine (stream_nil w4 (HPR.out w4 HF4.out)).mono ?_
          rintro e w5 ⟨hf5, sp, sn, sc, h, rfl⟩
          have HF5 : Hid (Frm [] w w5) := hid (HF4.out.trans hf5 (by simp))
          clear hf5
          go_wp2_with fail
          first | go_returns | skip
          exact ⟨rfl, HF5.out⟩
        · obtain ⟨E, hEe⟩ : ∃ E, dcE (rsS BS k).2 (rsS BS k).1 = E := ⟨_, rfl⟩
          rw [hEe] at hE ⊢
          clear hf4 h5 hok hne hEe 
          go_wp2_with fail
          refine (stream_nil w4 (HPR.out w4 HF4.out)).mono ?_
          rintro e w5 ⟨hf5, sp, sn, sc, h, rfl⟩
          have HF5 : Hid (Frm [] w w5) := hid (HF4.out.trans hf5 (by simp))
          clear hf5
          go_wp2_with fail
          first | go_returns | skip
          exact ⟨rfl, HF5.out⟩
        · subst hNl
          have HBK := hid (back_bytes HBB.out h5 hok hrkN hrdN hnil)
          have HRN := hid hrdN
          clear hf4 hok hrkN hrdN hnil 
          go_wp2_with fail
          refine (stream_good np N.length nc N w4 rfl (by omega) HRN.out (HPR.out w4 HF4.out) HBK.out.1 (by rw [HBK.out.2]; exact h5)).mono ?_
          rintro e w5 ⟨hf5, sp, sn, sc, rfl, hsn, how5⟩
          have HF5 : Hid (Frm [] w w5) := hid (HF4.out.trans hf5 (by simp))
          rw [HBK.out.2] at how5
          have hcv1 := fun k0 => cv_any (P := Tryd.prog) (w := w5.drewN k0) (n := sn) 23 5 9 Tryd.underlying23 Tryd.underlying5 Tryd.underlying9 (how5.rd.drewN k0) sc (by rw [hsn, HBK.out.2])
          have hcv2 := fun n => cv_any (P := Tryd.prog) (w := w5.drewN n) 23 5 9 Tryd.underlying23 Tryd.underlying5 Tryd.underlying9 ((HRDB.out.kept HF5.out (by simp)).drewN n) d HBL.out
          generalize strOfNums BS = SB at hcv1 hcv2
          have hcv3 := hcv1 0
          have hcv4 := hcv2 0
          rw [World.drewN_zero] at hcv3 hcv4
          clear hf5 hsn how5 h5
          go_wp2_with fail
          first | go_returns | skip
          exact ⟨rfl, HF5.out⟩
      · obtain rfl : B = true := HAM.out.2 ham
        clear ham hlong hft
        go_wp2_with fail
        refine (HRB.out wt HFT.out).mono ?_
        rintro e w4 ⟨hf4, h4⟩
        have HF4 : Hid (Frm [] w w4) := hid (HFT.out.trans hf4 (by simp))
        rcases h4 with ⟨h5, rfl⟩ | ⟨h5, k, hok, (⟨hne, hE, rfl⟩ | ⟨hnil, np, nc, N, rfl, hNl, hk9, hrdN, hrkN⟩)⟩
        · clear hf4 h5
          go_wp2_with fail
          refine (stream_nil w4 (HPR.out w4 HF4.out)).mono ?_
          rintro e w5 ⟨hf5, sp, sn, sc, h, rfl⟩
          have HF5 : Hid (Frm [] w w5) := hid (HF4.out.trans hf5 (by simp))
          clear hf5
          go_wp2_with fail
          first | go_returns | skip
          exact ⟨rfl, HF5.out⟩
        · obtain ⟨E, hEe⟩ : ∃ E, dcE (rsS BS k).2 (rsS BS k).1 = E := ⟨_, rfl⟩
          rw [hEe] at hE ⊢
          clear hf4 h5 hok hne hEe 
          go_wp2_with fail
          refine (stream_nil w4 (HPR.out w4 HF4.out)).mono ?_
          rintro e w5 ⟨hf5, sp, sn, sc, h, rfl⟩
          have HF5 : Hid (Frm [] w w5) := hid (HF4.out.trans hf5 (by simp))
          clear hf5
          go_wp2_with fail
          first | go_returns | skip
          exact ⟨rfl, HF5.out⟩
        · subst hNl
          have HBK := hid (back_bytes HBB.out h5 hok hrkN hrdN hnil)
          have HRN := hid hrdN
          clear hf4 hok hrkN hrdN hnil 
          go_wp2_with fail
          refine (stream_good np N.length nc N w4 rfl (by omega) HRN.out (HPR.out w4 HF4.out) HBK.out.1 (by rw [HBK.out.2]; exact h5)).mono ?_
          rintro e w5 ⟨hf5, sp, sn, sc, rfl, hsn, how5⟩
          have HF5 : Hid (Frm [] w w5) := hid (HF4.out.trans hf5 (by simp))
          rw [HBK.out.2] at how5
          have hcv1 := fun k0 => cv_any (P := Tryd.prog) (w := w5.drewN k0) (n := sn) 23 5 9 Tryd.underlying23 Tryd.underlying5 Tryd.underlying9 (how5.rd.drewN k0) sc (by rw [hsn, HBK.out.2])
          have hcv2 := fun n => cv_any (P := Tryd.prog) (w := w5.drewN n) 23 5 9 Tryd.underlying23 Tryd.underlying5 Tryd.underlying9 ((HRDB.out.kept HF5.out (by simp)).drewN n) d HBL.out
          generalize strOfNums BS = SB at hcv1 hcv2
          have hcv3 := hcv1 0
          have hcv4 := hcv2 0
          rw [World.drewN_zero] at hcv3 hcv4
          clear hf5 hsn how5 h5
          go_wp2_with fail
          first | go_returns | skip
          exact ⟨rfl, HF5.out⟩
      · obtain rfl : B = true := HAM.out.2 ham
        have hss : sn ≤ 1048576 := by omega
        have HOW := hid how
        have hnc : sn ≤ sc := by
          obtain ⟨a1, a2, a3, a4, _⟩ := how.shape
          simp only [Value.slice.injEq] at a3
          omega
        have HBD : Hid (∀ z ∈ strB L L.length, 0 ≤ z ∧ z < 256) := hid (strB_bd HRD0.out L.length (Nat.le_refl _))
        have HRC := hid (records_back sp sn sc L wt w p HRD0.out ham hshort hsn hnc how.rd HBD.out (HPR.out wt HFT.out))
        clear ham hshort hft hsn how hbk hnc HBD
        go_wp2_with fail
        refine HRC.out.mono ?_
        rintro e w2 ⟨hf2, mp, mc, M, rfl, hml, hrm, hsame⟩
        have HF2 : Hid (Frm [] w w2) := hid (HFT.out.trans hf2 (by simp))
        rw [HLN.out]
        have HSA := hid (sameAll_any p mp t c mc L M w2 HLN.out (by rw [hml]; exact HLN.out) HN9.out (HRD.out w2 HF2.out) hrm (fun j hj => hsame j (by rw [HLN.out]; exact hj)))
        clear HFT hf2 hml hrm hsame HRC
        go_wp2_with fail
        refine HSA.out.mono ?_
        rintro e wt ⟨rfl, hft⟩
        have HFT : Hid (Frm [] w wt) := hid (HF2.out.trans hft (by simp))
        have i1 : ¬ (1048576 : Int) < (sn : Int) := by omega
        clear hft HSA
        go_wp2_with fail
        refine (HRB.out wt HFT.out).mono ?_
        rintro e w4 ⟨hf4, h4⟩
        have HF4 : Hid (Frm [] w w4) := hid (HFT.out.trans hf4 (by simp))
        rcases h4 with ⟨h5, rfl⟩ | ⟨h5, k, hok, (⟨hne, hE, rfl⟩ | ⟨hnil, np, nc, N, rfl, hNl, hk9, hrdN, hrkN⟩)⟩
        · clear hf4 h5
          go_wp2_with fail
          refine (stream_nil w4 (HPR.out w4 HF4.out)).mono ?_
          rintro e w5 ⟨hf5, sp, sn, sc, h, rfl⟩
          have HF5 : Hid (Frm [] w w5) := hid (HF4.out.trans hf5 (by simp))
          clear hf5
          go_wp2_with fail
          first | go_returns | skip
          exact ⟨rfl, HF5.out⟩
        · obtain ⟨E, hEe⟩ : ∃ E, dcE (rsS BS k).2 (rsS BS k).1 = E := ⟨_, rfl⟩
          rw [hEe] at hE ⊢
          clear hf4 h5 hok hne hEe 
          go_wp2_with fail
          refine (stream_nil w4 (HPR.out w4 HF4.out)).mono ?_
          rintro e w5 ⟨hf5, sp, sn, sc, h, rfl⟩
          have HF5 : Hid (Frm [] w w5) := hid (HF4.out.trans hf5 (by simp))
          clear hf5
          go_wp2_with fail
          first | go_returns | skip
          exact ⟨rfl, HF5.out⟩
        · subst hNl
          have HBK := hid (back_bytes HBB.out h5 hok hrkN hrdN hnil)
          have HRN := hid hrdN
          clear hf4 hok hrkN hrdN hnil 
          go_wp2_with fail
          refine (stream_good np N.length nc N w4 rfl (by omega) HRN.out (HPR.out w4 HF4.out) HBK.out.1 (by rw [HBK.out.2]; exact h5)).mono ?_
          rintro e w5 ⟨hf5, sp, sn, sc, rfl, hsn, how5⟩
          have HF5 : Hid (Frm [] w w5) := hid (HF4.out.trans hf5 (by simp))
          rw [HBK.out.2] at how5
          have hcv1 := fun k0 => cv_any (P := Tryd.prog) (w := w5.drewN k0) (n := sn) 23 5 9 Tryd.underlying23 Tryd.underlying5 Tryd.underlying9 (how5.rd.drewN k0) sc (by rw [hsn, HBK.out.2])
          have hcv2 := fun n => cv_any (P := Tryd.prog) (w := w5.drewN n) 23 5 9 Tryd.underlying23 Tryd.underlying5 Tryd.underlying9 ((HRDB.out.kept HF5.out (by simp)).drewN n) d HBL.out
          generalize strOfNums BS = SB at hcv1 hcv2
          have hcv3 := hcv1 0
          have hcv4 := hcv2 0
          rw [World.drewN_zero] at hcv3 hcv4
          clear hf5 hsn how5 h5
          go_wp2_with fail
          first | go_returns | skip
          exact ⟨rfl, HF5.out⟩
    have t1 : (t : Int) < (n : Int) := by omega
    obtain ⟨g0, o0, rfl, hcell, hok, hns⟩ := (HRD.out wr HF.out).at (t := t) (by rw [HLN.out]; exact hlt)
    have HMT : Hid ((rkA L t).may ↔ RcMay (rkA L t).r (rkA L t).P (rkA L t).K (rkA L t).D) := hid Iff.rfl
    obtain ⟨⟨R, P, K, D⟩, hx⟩ : ∃ x, rkA L t = x := ⟨_, rfl⟩
    rw [hx] at hcell hok hns HMT
    simp only at hcell hok hns HMT
    rw [← hx] at HMT
    have HCK := hid (check_any R P K D wr hok (by omega))
    have z0 : wr.cell? ⟨g0, o0 + t * 13, none⟩ = some (.int .i64 R.kind) := hcell 0 _ rfl
    have z1 : wr.cell? ⟨g0, o0 + t * 13 + 1, none⟩ = some (.string R.name) := hcell 1 _ rfl
    have z2 : wr.cell? ⟨g0, o0 + t * 13 + 2, none⟩ = some (.int .i64 R.typ) := hcell 2 _ rfl
    have z3 : wr.cell? ⟨g0, o0 + t * 13 + 3, none⟩ = some (.int .i64 R.frm) := hcell 3 _ rfl
    have z4 : wr.cell? ⟨g0, o0 + t * 13 + 4, none⟩ = some (.int .i64 R.guid) := hcell 4 _ rfl
    have z5 : wr.cell? ⟨g0, o0 + t * 13 + 5, none⟩ = some (.int .i64 R.origin) := hcell 5 _ rfl
    have z6 : wr.cell? ⟨g0, o0 + t * 13 + 6, none⟩ = some (.string R.snap) := hcell 6 _ rfl
    have z7 : wr.cell? ⟨g0, o0 + t * 13 + 7, none⟩ = some (.slice R.pp R.pn R.pc) := hcell 7 _ rfl
    have z8 : wr.cell? ⟨g0, o0 + t * 13 + 8, none⟩ = some (.int .i64 R.obj) := hcell 8 _ rfl
    have z9 : wr.cell? ⟨g0, o0 + t * 13 + 9, none⟩ = some (.int .i64 R.at_) := hcell 9 _ rfl
    have z10 : wr.cell? ⟨g0, o0 + t * 13 + 10, none⟩ = some (.int .i64 R.many) := hcell 10 _ rfl
    have z11 : wr.cell? ⟨g0, o0 + t * 13 + 11, none⟩ = some (.slice R.kp R.kn R.kc) := hcell 11 _ rfl
    have z12 : wr.cell? ⟨g0, o0 + t * 13 + 12, none⟩ = some (.slice R.dp R.dl R.dc) := hcell 12 _ rfl
    unfold Rc.arr at HCK
    clear hcell hok hns hx
    go_wp2_with fail
    refine HCK.out.mono ?_
    rintro e w2 ⟨rfl, hf2⟩
    have HF2 : Hid (Frm [] w w2) := hid (HF.out.trans hf2 (by simp))
    clear hf2 HCK z0 z1 z2 z3 z4 z5 z6 z7 z8 z9 z10 z11 z12
    by_cases hmt : RcMay R P K D
    · rw [if_pos hmt]
      have HMN : Hid (B = true ↔ ∀ j, j < t + 1 → (rkA L j).may) := hid ⟨fun h j hj => by
        by_cases hj2 : j < t
        · exact HMY.out.1 h j hj2
        · obtain rfl : j = t := by omega
          exact HMT.out.2 hmt, fun h => HMY.out.2 (fun j hj => h j (by omega))⟩
      clear hmt
      cases B with
      | false =>
        go_wp2_with fail
        go_roundw
        case rel => exact ⟨t + 1, false, by omega, rfl, by go_num, hid (by have h := HMN.out; first | exact h | simpa using h), HF2⟩
        case measure => first | (simp [intOf]; done) | (simp [intOf]; omega)
      | true =>
        go_wp2_with fail
        go_roundw
        case rel => exact ⟨t + 1, true, by omega, rfl, by go_num, hid (by have h := HMN.out; simpa using h), HF2⟩
        case measure => first | (simp [intOf]; done) | (simp [intOf]; omega)
    · rw [if_neg hmt]
      have HMN : Hid (false = true ↔ ∀ j, j < t + 1 → (rkA L j).may) := hid ⟨fun h => by (cases h), fun h => absurd (HMT.out.1 (h t (by omega))) hmt⟩
      clear hmt
      cases B with
      | false =>
        go_wp2_with fail
        go_roundw
        case rel => exact ⟨t + 1, false, by omega, rfl, by go_num, hid (by have h := HMN.out; first | exact h | simpa using h), HF2⟩
        case measure => first | (simp [intOf]; done) | (simp [intOf]; omega)
      | true =>
        go_wp2_with fail
        go_roundw
        case rel => exact ⟨t + 1, false, by omega, rfl, by go_num, hid (by have h := HMN.out; first | exact h | simpa using h), HF2⟩
        case measure => first | (simp [intOf]; done) | (simp [intOf]; omega)
end
end Go.Proofs.YtajfjkfnmmfhmaaDoor
