/- SHA-256 of any bytes whose rest takes two blocks. SHA-256 of any bytes, the program's one; the document's turns. The document's padded. -/
import Derived.Test.YtajfjkfnmmfhmaaGreatDoorQwae
namespace Go.Proofs.YtajfjkfnmmfhmaaGreatDoor
section
open Go.RowKit
set_option maxRecDepth 100000
set_option maxHeartbeats 6400000 in
theorem sha_hi (p : Option Addr) (n c : Nat) (zs : List Int) (w : World) (hn : zs.length = n) (hnc : n ≤ c) (hnb : n ≤ 9223372036854775807) (h56 : 56 ≤ n % 64) (hrd : Rd w p zs) (hb : ∀ z ∈ zs, 0 ≤ z ∧ z < 256) (hpr : Primes w) :
    Calls Tryz.prog 103 #[.slice p n c] w fun e w' => e = .returned (.agg (shaHi n zs).arr) ∧ Frm [] w w' := by
  have HRD := hid hrd
  have HZB := hid hb
  have HN := hid hn
  have HPR := hid hpr
  have HNC := hid hnc
  have HMOD := hid (h56)
  clear hrd hb hn hpr hnc h56
  go_enter Tryz.func103, Tryz.ntmps103
  go_wp2_with fail
  obtain ⟨wa, hwa⟩ : ∃ wa, (w.alloc (.cells #[.int .u64 0, .int .u64 0, .int .u64 0, .int .u64 0] 29)).alloc (.cells #[.int .u32 1779033703, .int .u32 3144134277, .int .u32 1013904242, .int .u32 2773480762, .int .u32 1359893119, .int .u32 2600822924, .int .u32 528734635, .int .u32 1541459225] 124) = wa := ⟨_, rfl⟩
  have hfa0 : Frm [] w (w.alloc (.cells #[.int .u64 0, .int .u64 0, .int .u64 0, .int .u64 0] 29)) := (Frm.refl _ _).alloc _
  have hfa1 : Frm [] (w.alloc (.cells #[.int .u64 0, .int .u64 0, .int .u64 0, .int .u64 0] 29)) wa := by rw [← hwa]; exact (Frm.refl _ _).alloc _
  have hA0 : wa.heap[w.heap.size]? = some (.cells #[.int .u64 0, .int .u64 0, .int .u64 0, .int .u64 0] 29 (0, 0)) := hfa1.heap (heap_alloc_new _ _) (by simp)
  have hA1 : wa.heap[w.heap.size + 1]? = some (.cells H0.arr 124 (0, 0)) := by rw [← hwa]; exact heap_alloc_to _ _ (by simp)
  have hsz : wa.heap.size = w.heap.size + 2 := by rw [← hwa]; simp
  have HA0 := hid hA0
  have HA1 := hid hA1
  have HFA := hid (hfa0.trans hfa1 (by simp))
  have HSZ := hid hsz
  rw [hwa]
  clear hwa hfa0 hfa1 hA0 hA1 hsz
  have HJ0 : Hid (StJ w wa w.heap.size H0) := hid ⟨HA0.out, HA1.out, HFA.out⟩
  have HSA : Hid (w.heap.size + 2 ≤ wa.heap.size) := hid (by have := HSZ.out; omega)
  clear HA0 HA1 HFA HSZ
  go_loopw [0] (fun b wr => ∃ (k m d : Nat) (pk : Option Addr), b = .slice pk m d ∧ Hid (64 * k + m = n) ∧ Hid (64 * k + d = c) ∧ Hid (Rd w pk (zs.drop (64 * k))) ∧ Hid (StJ w wr w.heap.size (blksV H0 zs k)) ∧ Hid (w.heap.size + 2 ≤ wr.heap.size)) (fun b _ => match b with | .slice _ m _ => m | _ => 0)
  case atStart => exact ⟨0, n, c, p, rfl, hid (by omega), hid (by omega), HRD, HJ0, HSA⟩
  case round =>
    clear HJ0 HSA
    obtain ⟨k, m, d, pk, rfl, hkm, hkd, hrk, hst, hsz⟩ := hrel
    by_cases hlt : (64 : Int) ≤ (m : Int)
    · obtain ⟨e0, e1, e2, e3, e4, e5, e6, e7⟩ := hst.out.e
      have hlen : (zs.drop (64 * k)).length = m := by rw [List.length_drop, HN.out]; have := hkm.out; omega
      have HB := hid (block_any (blksV H0 zs k) pk m d (zs.drop (64 * k)) wr hlen (by omega) (by have := hkm.out; omega) (hrk.out.kept hst.out.fr (by simp)) (fun z hz => HZB.out z (List.mem_of_mem_drop hz)) (HPR.out.kept hst.out.fr))
      obtain ⟨pp, hsl, hrd2, hbk2⟩ := slice_from pk (zs.drop (64 * k)) m d 64 hlen (by omega) (by have := hkm.out; have := hkd.out; have := HNC.out; omega) w hrk.out
      have hsl' : ∀ W : World, (Instr.sliceAt 24 (.slice pk m d) (some (.int .i64 64)) none none).run Tryz.prog W = .ok (.slice pp (m - 64) (d - 64)) W := hsl
      have hsl2 : ∀ W : World, (Instr.slice 24 (.slice pk m d) (some (.int .i64 64)) none none).run Tryz.prog W = .ok (.slice pp (m - 64) (d - 64)) W := fun W => by rw [← run_sliceAt_slice (h := elem_of Tryz.underlying24)]; exact hsl' W
      have HR2 := hid hrd2
      have hvn : blockV (blksV H0 zs k) (zs.drop (64 * k)) = blksV H0 zs (k + 1) := rfl
      obtain ⟨v, hv⟩ : ∃ v, blksV H0 zs k = v := ⟨_, rfl⟩
      obtain ⟨v1, hv1⟩ : ∃ v, blksV H0 zs (k + 1) = v := ⟨_, rfl⟩
      rw [hv] at e0 e1 e2 e3 e4 e5 e6 e7 HB hst hvn
      rw [hv1] at hvn
      rw [hvn] at HB
      have HV1 := hid hv1
      clear hvn hv hv1 hlen hsl hrd2 hbk2
      go_wp2_with fail
      refine (HB.out).mono ?_
      rintro e w6 ⟨rfl, hf6⟩
      have h1 := hf6.heap hst.out.h1 (by simp)
      have HF6 := hid hf6
      have hS8 := set8 (y0 := .int .u32 v1.a) (y1 := .int .u32 v1.b) (y2 := .int .u32 v1.c) (y3 := .int .u32 v1.d) (y4 := .int .u32 v1.e) (y5 := .int .u32 v1.f) (y6 := .int .u32 v1.g) (y7 := .int .u32 v1.h) h1
      have HS8 := hid hS8
      have hfr6 : ∀ i, w6.frozen? ⟨w.heap.size + 1, i, none⟩ = false := fun i => frozen_of_row w6 _ i _ _ h1
      have f0 := hfr6 0
      have f1 := hfr6 1
      have f2 := hfr6 2
      have f3 := hfr6 3
      have f4 := hfr6 4
      have f5 := hfr6 5
      have f6 := hfr6 6
      have f7 := hfr6 7
      have o0 : w6.cell? ⟨w.heap.size + 1, 0, none⟩ = some (.int .u32 v.a) := by rw [cell_of_row w6 _ _ _ _ _ h1]; rfl
      have o1 : w6.cell? ⟨w.heap.size + 1, 1, none⟩ = some (.int .u32 v.b) := by rw [cell_of_row w6 _ _ _ _ _ h1]; rfl
      have o2 : w6.cell? ⟨w.heap.size + 1, 2, none⟩ = some (.int .u32 v.c) := by rw [cell_of_row w6 _ _ _ _ _ h1]; rfl
      have o3 : w6.cell? ⟨w.heap.size + 1, 3, none⟩ = some (.int .u32 v.d) := by rw [cell_of_row w6 _ _ _ _ _ h1]; rfl
      have o4 : w6.cell? ⟨w.heap.size + 1, 4, none⟩ = some (.int .u32 v.e) := by rw [cell_of_row w6 _ _ _ _ _ h1]; rfl
      have o5 : w6.cell? ⟨w.heap.size + 1, 5, none⟩ = some (.int .u32 v.f) := by rw [cell_of_row w6 _ _ _ _ _ h1]; rfl
      have o6 : w6.cell? ⟨w.heap.size + 1, 6, none⟩ = some (.int .u32 v.g) := by rw [cell_of_row w6 _ _ _ _ _ h1]; rfl
      have o7 : w6.cell? ⟨w.heap.size + 1, 7, none⟩ = some (.int .u32 v.h) := by rw [cell_of_row w6 _ _ _ _ _ h1]; rfl
      clear h1 hf6 hS8 hfr6 e0 e1 e2 e3 e4 e5 e6 e7
      unfold V8.arr
      go_wp2_with fail
      go_roundw
      case rel =>
        obtain ⟨h8, f8⟩ := HS8.out
        have hw6 : Frm [] w w6 := hst.out.fr.trans HF6.out (by simp)
        have hz := hsz.out
        have hz6 := HF6.out.size
        refine ⟨k + 1, m - 64, d - 64, pp, rfl, hid (by have := hkm.out; omega), hid (by have := hkm.out; have := hkd.out; have := HNC.out; omega), hid ?_, hid ⟨f8.heap (HF6.out.heap hst.out.h0 (by simp)) (by simp), ?_, hw6.trans f8 (fun i hi hl => by simp at hi; omega)⟩, hid (by have := f8.size; omega)⟩
        · have := HR2.out; rw [List.drop_drop] at this; exact this
        · rw [HV1.out]; exact h8
      case measure => show m - 64 < m; omega
    · have hkm' := hkm.out
      have hk : k = n / 64 := by omega
      have hm0 : m = n % 64 := by omega
      have hcut : (56 : Int) ≤ (m : Int) := by have := HMOD.out; omega
      have HK := hid hk
      have hzs : (zs.drop (64 * k)).length = m := by rw [List.length_drop, HN.out]; omega
      obtain ⟨ms, hms⟩ : ∃ ms, zs.drop (64 * k) = ms := ⟨_, rfl⟩
      obtain ⟨v, hv⟩ : ∃ v, blksV H0 zs k = v := ⟨_, rfl⟩
      have HMZ : Hid (∀ z ∈ ms, 0 ≤ z ∧ z < 256) := hid (fun z hz => HZB.out z (List.mem_of_mem_drop (by rw [hms]; exact hz)))
      rw [hms] at hrk hzs
      rw [hv] at hst
      have HMS := hid hms
      have HV := hid hv
      have HML := hid hzs
      clear hk hms hv hzs hkm' hm0 hkd hkm
      have hm64 : m < 64 := by omega
      have hzt := zero_tail wr
      generalize hT0 : List.replicate 128 (0 : Int) = T0 at hzt
      have HT0 := hid hT0
      clear hT0
      have hfb : Frm [] wr (wr.alloc (.cells (bv T0).toArray 139)) := (Frm.refl _ _).alloc _
      have HG0 : Hid ((wr.alloc (.cells (bv T0).toArray 139)).heap[wr.heap.size]? = some (.cells (bv T0).toArray 139 (0, 0))) := hid (heap_alloc_new _ _)
      have HR0 : Hid (Rd (wr.alloc (.cells (bv T0).toArray 139)) pk ms) := hid (hrk.out.kept (hst.out.fr.trans hfb (by simp)) (by simp))
      have HFB := hid hfb
      clear hfb
      go_wp2_with (refine wpList_copyS rfl _ _ 24 rfl 5 139 Tryz.underlying24 infoB _ _ _ rfl _ 0 T0 HG0.out (fun _ => rfl) (by rw [← HT0.out]; simp) pk m d ms rfl HML.out.symm HR0.out ?_)
      intro w2 q hq hg2 hf2
      have hT1 : splice T0 0 (ms.take q) = ms ++ List.replicate (128 - m) 0 := by
        have hk' := hq.out
        have e1 : ms.take q = ms := List.take_of_length_le (by rw [HML.out]; omega)
        rw [e1, ← HT0.out]
        unfold splice
        simp only [List.take_zero, List.nil_append, Nat.zero_add, HML.out, List.drop_replicate]
      have hg3 := hg2.out
      rw [hT1] at hg3
      have hsz' := hsz.out
      have hF2 : Frm [] w w2 := (hst.out.fr.trans HFB.out (by simp)).trans hf2.out (fun i hi hl => by simp at hi; have := hst.out.fr.size; omega)
      obtain ⟨T1, hT⟩ : ∃ T1, ms ++ List.replicate (128 - m) 0 = T1 := ⟨_, rfl⟩
      rw [hT] at hg3
      have HT := hid hT
      have hT1l : T1.length = 128 := by rw [← hT]; simp [HML.out]; omega
      obtain ⟨y, hy⟩ : ∃ y, wr.heap.size = y := ⟨_, rfl⟩
      have HF2' := hf2.out
      rw [hy] at hg3 hsz' HF2' ⊢
      have HY : Hid (w.heap.size + 1 < y) := hid (by omega)
      have HY0 : Hid (StY w w2 w.heap.size y v T1) := hid ⟨⟨HF2'.heap (HFB.out.heap hst.out.h0 (by simp)) (by simp; omega), HF2'.heap (HFB.out.heap hst.out.h1 (by simp)) (by simp; omega), hF2⟩, hg3, hT1l⟩
      have HTL := hid hT1l
      have c0 : w2.cell? ⟨y, m, none⟩ = some (.int .u8 (T1.getD m 0)) := by
        rw [cell_of_row w2 _ _ _ _ _ hg3]
        simp [bv, List.getD_eq_getElem?_getD, show m < T1.length by omega]
      have f0 : w2.frozen? ⟨y, m, none⟩ = false := frozen_of_row w2 _ m _ _ hg3
      have n0 : (0 : Int) ≤ (m : Int) := by omega
      have n1 : (m : Int) < 128 := by omega
      clear hq hg2 hf2 HF2' hT1 hF2 hsz hsz' hT hg3 hT1l hst HT0 hzt HG0 HR0 HFB hy hrk
      go_wp2_with fail
      have HS0 : Hid (StY w (w2.setCell ⟨y, m, none⟩ (.int .u8 128)) w.heap.size y v (T1.set m 128)) := hid (HY0.out.set (Nat.le_refl _) HY.out m 128)
      clear HY0 c0 f0
      go_loopw [29] (fun i wr => ∃ t : Nat, t ≤ 8 ∧ i = .int .i64 t ∧ Hid (StY w wr w.heap.size y v (tlE n 127 (T1.set m 128) t))) (fun i _ => 8 - (intOf i).toNat)
      case atStart => exact ⟨0, by omega, rfl, HS0⟩
      case round =>
        clear HS0
        obtain ⟨t, ht, rfl, hst⟩ := hrel
        by_cases hlt : t < 8
        · have c0 := hst.out.at (127 - t) (by omega)
          have f0 : wr.frozen? ⟨y, 127 - t, none⟩ = false := frozen_of_row wr _ _ _ _ hst.out.h2
          have k0 : IntKind.i64.wrap (127 - (t : Int)) = 127 - (t : Int) := IntWalk.i64_in _ (by omega)
          have k1 : (0 : Int) ≤ 127 - (t : Int) := by omega
          have k2 : 127 - (t : Int) < 128 := by omega
          have k3 : (127 - (t : Int)).toNat = 127 - t := by omega
          have k4 : (0 : Int) ≤ 8 * (t : Int) := by omega
          have k5 : IntKind.i64.wrap (8 * (t : Int)) = 8 * (t : Int) := IntWalk.i64_in _ (by omega)
          have k6 : (8 * (t : Int)).toNat = 8 * t := by omega
          go_wp2_with fail
          go_roundw
          case rel => exact ⟨t + 1, by omega, by go_num, hid (hst.out.set (Nat.le_refl _) HY.out (127 - t) (lenC n t))⟩
          case measure => simp [intOf]; omega
        · obtain rfl : t = 8 := by omega
          clear hlt
          rw [show ((8 : Nat) : Int) = 8 from rfl]
          have hok : OkB (tlE n 127 (T1.set m 128) 8) := by
            refine OkB.tlE (OkB.set ?_ _ (by omega)) _ _ _
            rw [← HT.out]
            intro z hz
            rcases List.mem_append.1 hz with hz | hz
            · exact HMZ.out z hz
            · have := List.eq_of_mem_replicate hz; omega
          have hpad : tlE n 127 (T1.set m 128) 8 = tailE n 127 ms := by
            unfold tailE
            rw [HML.out, HT.out]
          obtain ⟨T, hT⟩ : ∃ T, tlE n 127 (T1.set m 128) 8 = T := ⟨_, rfl⟩
          rw [hT] at hok hpad hst
          have HOK := hid hok
          have HPAD := hid hpad
          clear hok hpad hT HT HTL n0 n1 hcut hm64 hnb
          go_wp2_with fail
          obtain ⟨v1, hv1⟩ : ∃ v1, blockV v (T.take 64) = v1 := ⟨_, rfl⟩
          have HV1 := hid hv1
          clear hv1
          obtain ⟨v2, hv2⟩ : ∃ v2, blockV v1 (T.drop 64) = v2 := ⟨_, rfl⟩
          have HV2 := hid hv2
          clear hv2
          go_loopw [8] (fun a wr => (a = .int .i64 0 ∧ Hid (StY w wr w.heap.size y v T)) ∨ (a = .int .i64 64 ∧ Hid (StY w wr w.heap.size y v1 T)) ∨ (a = .int .i64 128 ∧ Hid (StY w wr w.heap.size y v2 T))) (fun a _ => 128 - (intOf a).toNat)
          case atStart => exact Or.inl ⟨rfl, hst⟩
          case round =>
          clear hst
          rcases hrel with ⟨rfl, hst⟩ | ⟨rfl, hst⟩ | ⟨rfl, hst⟩
          · have HB := hid (fun w' (h : StY w w' w.heap.size y v T) => block_any v (some ⟨y, 0, none⟩) 64 128 (T.take 64) w' (by rw [List.length_take, h.len]; rfl) (by omega) (by omega) h.rd (fun z hz => HOK.out z (List.mem_of_mem_take hz)) (HPR.out.kept h.j.fr))
            rw [HV1.out] at HB
            obtain ⟨e0, e1, e2, e3, e4, e5, e6, e7⟩ := hst.out.j.e
            have hcut := cut_tail y
            have hw64 : IntKind.i64.wrap 64 = 64 := rfl
            have hw128 : IntKind.i64.wrap 128 = 128 := rfl
            go_wp2_with fail
            go_still_tail 5, (by kernel_rfl)
            change wpList _ _ _ _ _ wr.drew
            have HS5 : Hid (StY w wr.drew w.heap.size y v T) := hid ⟨⟨hst.out.j.h0, hst.out.j.h1, hst.out.j.fr.drew⟩, hst.out.h2, hst.out.len⟩
            obtain ⟨w5, hw5⟩ : ∃ w5, wr.drew = w5 := ⟨_, rfl⟩
            rw [hw5] at HS5 ⊢
            clear hw5 e0 e1 e2 e3 e4 e5 e6 e7 hst
            go_wp2_with fail
            refine (HB.out w5 HS5.out).mono ?_
            rintro e w6 ⟨rfl, hf6⟩
            have h1 := hf6.heap HS5.out.j.h1 (by simp)
            have HF6 := hid hf6
            unfold V8.arr
            have hfr6 : ∀ i, w6.frozen? ⟨w.heap.size + 1, i, none⟩ = false := fun i => frozen_of_row w6 _ i _ _ h1
            have f0 := hfr6 0
            have f1 := hfr6 1
            have f2 := hfr6 2
            have f3 := hfr6 3
            have f4 := hfr6 4
            have f5 := hfr6 5
            have f6 := hfr6 6
            have f7 := hfr6 7
            have o0 : w6.cell? ⟨w.heap.size + 1, 0, none⟩ = some (.int .u32 v.a) := by rw [cell_of_row w6 _ _ _ _ _ h1]; rfl
            have o1 : w6.cell? ⟨w.heap.size + 1, 1, none⟩ = some (.int .u32 v.b) := by rw [cell_of_row w6 _ _ _ _ _ h1]; rfl
            have o2 : w6.cell? ⟨w.heap.size + 1, 2, none⟩ = some (.int .u32 v.c) := by rw [cell_of_row w6 _ _ _ _ _ h1]; rfl
            have o3 : w6.cell? ⟨w.heap.size + 1, 3, none⟩ = some (.int .u32 v.d) := by rw [cell_of_row w6 _ _ _ _ _ h1]; rfl
            have o4 : w6.cell? ⟨w.heap.size + 1, 4, none⟩ = some (.int .u32 v.e) := by rw [cell_of_row w6 _ _ _ _ _ h1]; rfl
            have o5 : w6.cell? ⟨w.heap.size + 1, 5, none⟩ = some (.int .u32 v.f) := by rw [cell_of_row w6 _ _ _ _ _ h1]; rfl
            have o6 : w6.cell? ⟨w.heap.size + 1, 6, none⟩ = some (.int .u32 v.g) := by rw [cell_of_row w6 _ _ _ _ _ h1]; rfl
            have o7 : w6.cell? ⟨w.heap.size + 1, 7, none⟩ = some (.int .u32 v.h) := by rw [cell_of_row w6 _ _ _ _ _ h1]; rfl
            have hS8 := set8 (y0 := .int .u32 v1.a) (y1 := .int .u32 v1.b) (y2 := .int .u32 v1.c) (y3 := .int .u32 v1.d) (y4 := .int .u32 v1.e) (y5 := .int .u32 v1.f) (y6 := .int .u32 v1.g) (y7 := .int .u32 v1.h) h1
            have HS8 := hid hS8
            clear h1 hf6 hS8 hfr6
            go_wp2_with fail
            go_roundw
            case rel =>
              refine Or.inr <| Or.inl ⟨rfl, hid ?_⟩
              obtain ⟨h8, f8⟩ := HS8.out
              have hw6 : Frm [] w w6 := HS5.out.j.fr.trans HF6.out (by simp)
              have hy' := HY.out
              exact ⟨⟨f8.heap (HF6.out.heap HS5.out.j.h0 (by simp)) (by simp), h8, hw6.trans f8 (fun i hi hl => by simp at hi; omega)⟩, f8.heap (HF6.out.heap HS5.out.h2 (by simp)) (by simp; omega), HS5.out.len⟩
            case measure => simp [intOf]
          · have HB := hid (fun w' (h : StY w w' w.heap.size y v1 T) => block_any v1 (some ⟨y, 64, none⟩) 64 64 (T.drop 64) w' (by rw [List.length_drop, h.len]) (by omega) (by omega) h.rd2 (fun z hz => HOK.out z (List.mem_of_mem_drop hz)) (HPR.out.kept h.j.fr))
            rw [HV2.out] at HB
            obtain ⟨e0, e1, e2, e3, e4, e5, e6, e7⟩ := hst.out.j.e
            have hcut := cut_tail2 y
            have hw64 : IntKind.i64.wrap 64 = 64 := rfl
            have hw128 : IntKind.i64.wrap 128 = 128 := rfl
            go_wp2_with fail
            go_still_tail 5, (by kernel_rfl)
            change wpList _ _ _ _ _ wr.drew
            have HS5 : Hid (StY w wr.drew w.heap.size y v1 T) := hid ⟨⟨hst.out.j.h0, hst.out.j.h1, hst.out.j.fr.drew⟩, hst.out.h2, hst.out.len⟩
            obtain ⟨w5, hw5⟩ : ∃ w5, wr.drew = w5 := ⟨_, rfl⟩
            rw [hw5] at HS5 ⊢
            clear hw5 e0 e1 e2 e3 e4 e5 e6 e7 hst
            go_wp2_with fail
            refine (HB.out w5 HS5.out).mono ?_
            rintro e w6 ⟨rfl, hf6⟩
            have h1 := hf6.heap HS5.out.j.h1 (by simp)
            have HF6 := hid hf6
            unfold V8.arr
            have hfr6 : ∀ i, w6.frozen? ⟨w.heap.size + 1, i, none⟩ = false := fun i => frozen_of_row w6 _ i _ _ h1
            have f0 := hfr6 0
            have f1 := hfr6 1
            have f2 := hfr6 2
            have f3 := hfr6 3
            have f4 := hfr6 4
            have f5 := hfr6 5
            have f6 := hfr6 6
            have f7 := hfr6 7
            have o0 : w6.cell? ⟨w.heap.size + 1, 0, none⟩ = some (.int .u32 v1.a) := by rw [cell_of_row w6 _ _ _ _ _ h1]; rfl
            have o1 : w6.cell? ⟨w.heap.size + 1, 1, none⟩ = some (.int .u32 v1.b) := by rw [cell_of_row w6 _ _ _ _ _ h1]; rfl
            have o2 : w6.cell? ⟨w.heap.size + 1, 2, none⟩ = some (.int .u32 v1.c) := by rw [cell_of_row w6 _ _ _ _ _ h1]; rfl
            have o3 : w6.cell? ⟨w.heap.size + 1, 3, none⟩ = some (.int .u32 v1.d) := by rw [cell_of_row w6 _ _ _ _ _ h1]; rfl
            have o4 : w6.cell? ⟨w.heap.size + 1, 4, none⟩ = some (.int .u32 v1.e) := by rw [cell_of_row w6 _ _ _ _ _ h1]; rfl
            have o5 : w6.cell? ⟨w.heap.size + 1, 5, none⟩ = some (.int .u32 v1.f) := by rw [cell_of_row w6 _ _ _ _ _ h1]; rfl
            have o6 : w6.cell? ⟨w.heap.size + 1, 6, none⟩ = some (.int .u32 v1.g) := by rw [cell_of_row w6 _ _ _ _ _ h1]; rfl
            have o7 : w6.cell? ⟨w.heap.size + 1, 7, none⟩ = some (.int .u32 v1.h) := by rw [cell_of_row w6 _ _ _ _ _ h1]; rfl
            have hS8 := set8 (y0 := .int .u32 v2.a) (y1 := .int .u32 v2.b) (y2 := .int .u32 v2.c) (y3 := .int .u32 v2.d) (y4 := .int .u32 v2.e) (y5 := .int .u32 v2.f) (y6 := .int .u32 v2.g) (y7 := .int .u32 v2.h) h1
            have HS8 := hid hS8
            clear h1 hf6 hS8 hfr6
            go_wp2_with fail
            go_roundw
            case rel =>
              refine Or.inr <| Or.inr ⟨rfl, hid ?_⟩
              obtain ⟨h8, f8⟩ := HS8.out
              have hw6 : Frm [] w w6 := HS5.out.j.fr.trans HF6.out (by simp)
              have hy' := HY.out
              exact ⟨⟨f8.heap (HF6.out.heap HS5.out.j.h0 (by simp)) (by simp), h8, hw6.trans f8 (fun i hi hl => by simp at hi; omega)⟩, f8.heap (HF6.out.heap HS5.out.h2 (by simp)) (by simp; omega), HS5.out.len⟩
            case measure => simp [intOf]
          · have HRES : Hid (sumV v2 = shaHi n zs) := hid (by
              rw [← HV2.out, ← HV1.out, HPAD.out, ← HV.out, ← HMS.out, HK.out]
              rfl)
            have hok : v2.ok := by rw [← HV2.out]; exact blockV_ok _ _
            obtain ⟨d0, d1, d2, d3, d4, d5, d6, d7⟩ := hok
            have HP1 := hid (pair_any v2.a v2.b wr.drew d0 d1)
            have HP2 := hid (pair_any v2.c v2.d wr.drew d2 d3)
            have HP3 := hid (pair_any v2.e v2.f wr.drew d4 d5)
            have HP4 := hid (pair_any v2.g v2.h wr.drew d6 d7)
            clear d0 d1 d2 d3 d4 d5 d6 d7
            obtain ⟨e0, e1, e2, e3, e4, e5, e6, e7⟩ := hst.out.j.e
            go_wp2_with fail
            go_still_tail 21, (by kernel_rfl)
            refine wpStill_step (fun K hK => ?_)
            go_simp
            refine ⟨_, HP1.out, hK _ ?_⟩
            clear hK K
            repeat still_step
            refine wpStill_step (fun K hK => ?_)
            go_simp
            refine ⟨_, HP2.out, hK _ ?_⟩
            clear hK K
            repeat still_step
            refine wpStill_step (fun K hK => ?_)
            go_simp
            refine ⟨_, HP3.out, hK _ ?_⟩
            clear hK K
            repeat still_step
            refine wpStill_step (fun K hK => ?_)
            go_simp
            refine ⟨_, HP4.out, hK _ ?_⟩
            clear hK K
            repeat still_step
            refine wpStill_nil ?_
            change wpList _ _ _ _ _ wr.drew
            have HS9 : Hid (StJ w wr.drew w.heap.size v2) := hid ⟨hst.out.j.h0, hst.out.j.h1, hst.out.j.fr.drew⟩
            obtain ⟨w9, hw9⟩ : ∃ w9, wr.drew = w9 := ⟨_, rfl⟩
            rw [hw9] at HS9 ⊢
            clear hw9 e0 e1 e2 e3 e4 e5 e6 e7 hst HP1 HP2 HP3 HP4
            have r0 : w9.cell? ⟨w.heap.size, 0, none⟩ = some (.int .u64 0) := by rw [cell_of_row w9 _ _ _ _ _ HS9.out.h0]; rfl
            have q0 : w9.frozen? ⟨w.heap.size, 0, none⟩ = false := frozen_of_row w9 _ 0 _ _ HS9.out.h0
            have r1 : w9.cell? ⟨w.heap.size, 1, none⟩ = some (.int .u64 0) := by rw [cell_of_row w9 _ _ _ _ _ HS9.out.h0]; rfl
            have q1 : w9.frozen? ⟨w.heap.size, 1, none⟩ = false := frozen_of_row w9 _ 1 _ _ HS9.out.h0
            have r2 : w9.cell? ⟨w.heap.size, 2, none⟩ = some (.int .u64 0) := by rw [cell_of_row w9 _ _ _ _ _ HS9.out.h0]; rfl
            have q2 : w9.frozen? ⟨w.heap.size, 2, none⟩ = false := frozen_of_row w9 _ 2 _ _ HS9.out.h0
            have r3 : w9.cell? ⟨w.heap.size, 3, none⟩ = some (.int .u64 0) := by rw [cell_of_row w9 _ _ _ _ _ HS9.out.h0]; rfl
            have q3 : w9.frozen? ⟨w.heap.size, 3, none⟩ = false := frozen_of_row w9 _ 3 _ _ HS9.out.h0
            have HS4 := hid (set4 (y0 := .int .u64 (pairW v2.a v2.b)) (y1 := .int .u64 (pairW v2.c v2.d)) (y2 := .int .u64 (pairW v2.e v2.f)) (y3 := .int .u64 (pairW v2.g v2.h)) HS9.out.h0)
            go_wp2_with fail
            obtain ⟨h4, f4⟩ := HS4.out
            obtain ⟨wz, hwz⟩ : ∃ wz, (((w9.setCell ⟨w.heap.size, 0, none⟩ (.int .u64 (pairW v2.a v2.b))).setCell ⟨w.heap.size, 1, none⟩ (.int .u64 (pairW v2.c v2.d))).setCell ⟨w.heap.size, 2, none⟩ (.int .u64 (pairW v2.e v2.f))).setCell ⟨w.heap.size, 3, none⟩ (.int .u64 (pairW v2.g v2.h)) = wz := ⟨_, rfl⟩
            rw [hwz] at h4 f4 ⊢
            have g0 : wz.cell? ⟨w.heap.size, 0, none⟩ = some (.int .u64 (pairW v2.a v2.b)) := by rw [cell_of_row wz _ _ _ _ _ h4]; rfl
            have g1 : wz.cell? ⟨w.heap.size, 1, none⟩ = some (.int .u64 (pairW v2.c v2.d)) := by rw [cell_of_row wz _ _ _ _ _ h4]; rfl
            have g2 : wz.cell? ⟨w.heap.size, 2, none⟩ = some (.int .u64 (pairW v2.e v2.f)) := by rw [cell_of_row wz _ _ _ _ _ h4]; rfl
            have g3 : wz.cell? ⟨w.heap.size, 3, none⟩ = some (.int .u64 (pairW v2.g v2.h)) := by rw [cell_of_row wz _ _ _ _ _ h4]; rfl
            have hfz : Frm [] w wz := HS9.out.fr.trans f4 (fun i hi hl => by simp at hi; omega)
            clear hwz h4 f4 HS4 r0 r1 r2 r3 q0 q1 q2 q3
            refine bodyPost_ret (v := .agg #[.int .u64 (pairW v2.a v2.b), .int .u64 (pairW v2.c v2.d), .int .u64 (pairW v2.e v2.f), .int .u64 (pairW v2.g v2.h)]) (by simp [results, Tryz.results103, go_sem, g0, g1, g2, g3]) rfl ⟨?_, hfz⟩
            rw [← HRES.out]
            rfl
end
section
open Go.RowKit
set_option maxRecDepth 100000
/-- SHA-256 of any bytes. -/
def shaA (zs : List Int) : S4 := if zs.length % 64 < 56 then shaLo zs.length zs else shaHi zs.length zs
theorem sha_any (p : Option Addr) (n c : Nat) (zs : List Int) (w : World) (hn : zs.length = n) (hnc : n ≤ c) (hnb : n ≤ 9223372036854775807) (hrd : Rd w p zs) (hb : ∀ z ∈ zs, 0 ≤ z ∧ z < 256) (hpr : Primes w) :
    Calls Tryz.prog 103 #[.slice p n c] w fun e w' => e = .returned (.agg (shaA zs).arr) ∧ Frm [] w w' := by
  unfold shaA
  by_cases h : n % 64 < 56
  · rw [hn, if_pos h]
    exact sha_lo p n c zs w hn hnc hnb h hrd hb hpr
  · rw [hn, if_neg h]
    exact sha_hi p n c zs w hn hnc hnb (by omega) hrd hb hpr
theorem or_flip (a b : Int) : bits .or .u32 a b = bits .or .u32 b a := by
  unfold bits
  simp only [BitVec.or_comm]
theorem turn_2 (x : Int) (w : World) :
    Calls Tryz.prog 111 #[.int .u32 x, .int .u64 2] w fun e w' => e = .returned (.int .u32 (rorI x 2)) ∧ w' = w := by
  go_enter Tryz.func111, Tryz.ntmps111
  go_wp2_with fail
  go_returns
  refine ⟨?_, rfl⟩
  rw [or_flip]
  rfl
theorem turn_6 (x : Int) (w : World) :
    Calls Tryz.prog 111 #[.int .u32 x, .int .u64 6] w fun e w' => e = .returned (.int .u32 (rorI x 6)) ∧ w' = w := by
  go_enter Tryz.func111, Tryz.ntmps111
  go_wp2_with fail
  go_returns
  refine ⟨?_, rfl⟩
  rw [or_flip]
  rfl
theorem turn_7 (x : Int) (w : World) :
    Calls Tryz.prog 111 #[.int .u32 x, .int .u64 7] w fun e w' => e = .returned (.int .u32 (rorI x 7)) ∧ w' = w := by
  go_enter Tryz.func111, Tryz.ntmps111
  go_wp2_with fail
  go_returns
  refine ⟨?_, rfl⟩
  rw [or_flip]
  rfl
theorem turn_11 (x : Int) (w : World) :
    Calls Tryz.prog 111 #[.int .u32 x, .int .u64 11] w fun e w' => e = .returned (.int .u32 (rorI x 11)) ∧ w' = w := by
  go_enter Tryz.func111, Tryz.ntmps111
  go_wp2_with fail
  go_returns
  refine ⟨?_, rfl⟩
  rw [or_flip]
  rfl
theorem turn_13 (x : Int) (w : World) :
    Calls Tryz.prog 111 #[.int .u32 x, .int .u64 13] w fun e w' => e = .returned (.int .u32 (rorI x 13)) ∧ w' = w := by
  go_enter Tryz.func111, Tryz.ntmps111
  go_wp2_with fail
  go_returns
  refine ⟨?_, rfl⟩
  rw [or_flip]
  rfl
theorem turn_17 (x : Int) (w : World) :
    Calls Tryz.prog 111 #[.int .u32 x, .int .u64 17] w fun e w' => e = .returned (.int .u32 (rorI x 17)) ∧ w' = w := by
  go_enter Tryz.func111, Tryz.ntmps111
  go_wp2_with fail
  go_returns
  refine ⟨?_, rfl⟩
  rw [or_flip]
  rfl
theorem turn_18 (x : Int) (w : World) :
    Calls Tryz.prog 111 #[.int .u32 x, .int .u64 18] w fun e w' => e = .returned (.int .u32 (rorI x 18)) ∧ w' = w := by
  go_enter Tryz.func111, Tryz.ntmps111
  go_wp2_with fail
  go_returns
  refine ⟨?_, rfl⟩
  rw [or_flip]
  rfl
theorem turn_19 (x : Int) (w : World) :
    Calls Tryz.prog 111 #[.int .u32 x, .int .u64 19] w fun e w' => e = .returned (.int .u32 (rorI x 19)) ∧ w' = w := by
  go_enter Tryz.func111, Tryz.ntmps111
  go_wp2_with fail
  go_returns
  refine ⟨?_, rfl⟩
  rw [or_flip]
  rfl
theorem turn_22 (x : Int) (w : World) :
    Calls Tryz.prog 111 #[.int .u32 x, .int .u64 22] w fun e w' => e = .returned (.int .u32 (rorI x 22)) ∧ w' = w := by
  go_enter Tryz.func111, Tryz.ntmps111
  go_wp2_with fail
  go_returns
  refine ⟨?_, rfl⟩
  rw [or_flip]
  rfl
theorem turn_25 (x : Int) (w : World) :
    Calls Tryz.prog 111 #[.int .u32 x, .int .u64 25] w fun e w' => e = .returned (.int .u32 (rorI x 25)) ∧ w' = w := by
  go_enter Tryz.func111, Tryz.ntmps111
  go_wp2_with fail
  go_returns
  refine ⟨?_, rfl⟩
  rw [or_flip]
  rfl
theorem turned_all (x K : Int) (hK : turnK K = true) (w : World) :
    Calls Tryz.prog 111 #[.int .u32 x, .int .u64 K] w fun e w' => e = .returned (.int .u32 (rorI x K)) ∧ w' = w := by
  simp only [turnK, Bool.or_eq_true, beq_iff_eq] at hK
  rcases hK with ((((((((rfl | rfl) | rfl) | rfl) | rfl) | rfl) | rfl) | rfl) | rfl) | rfl
  · exact turn_2 x w
  · exact turn_6 x w
  · exact turn_7 x w
  · exact turn_11 x w
  · exact turn_13 x w
  · exact turn_17 x w
  · exact turn_18 x w
  · exact turn_19 x w
  · exact turn_22 x w
  · exact turn_25 x w
end
section
open Go.RowKit
set_option maxRecDepth 100000
/-- How many noughts come behind n bytes (the byte 128 among them) until 56 of a block are there. -/
def gapN (n : Nat) : Nat := (120 - n % 64) % 64
/-- The length's bytes from the highest on, t of them. -/
def lenL (n : Nat) : Nat → List Int
  | 0 => []
  | t + 1 => lenL n t ++ [lenC n (7 - t)]
theorem lenL_length (n t : Nat) : (lenL n t).length = t := by
  induction t with
  | zero => rfl
  | succ t ih => simp [lenL, ih]
def padD (zs : List Int) : List Int := zs ++ [128] ++ List.replicate (gapN (zs.length + 1)) 0 ++ lenL zs.length 8
set_option maxHeartbeats 3200000 in
theorem padded_any (p : Option Addr) (n c : Nat) (zs : List Int) (w : World) (hn : zs.length = n) (hp : zs = [] → p = none → c = 0) (hnb : n + 100 ≤ 140737488355328) (hrd : Rd w p zs) :
    Calls Tryz.prog 109 #[.slice p n c] w fun e w' => ∃ q d, e = .returned (.slice q (padD zs).length d) ∧ Own w' 5 (.slice q (padD zs).length d) (padD zs) ∧ (∀ k ∈ blk q, w.heap.size ≤ k) ∧ Frm [] w w' := by
  have HRD := hid hrd
  have HPC := hid hp
  have HN := hid hn
  clear hrd hn hp
  go_enter Tryz.func109, Tryz.ntmps109
  go_wp2_with (at_builtin; refine wpList_appB rfl _ _ 24 rfl 5 Tryz.underlying24 infoB none 0 0 [] rfl rfl (Own.nil _ _) p n c zs rfl HN.out.symm HPC.out HRD.out (by rw [HN.out]; simp; omega) ?_)
  intro x1 p1 c1 w1 hx1 ho1 hf1 hk1
  have e1 : x1 = zs := hx1.out
  have HX1 := hid e1
  have hl1 : x1.length = n := by rw [e1, HN.out]
  rw [hl1] at ho1 ⊢
  have HL1 := hid hl1
  have hK1 : Hid (∀ k ∈ blk p1, w.heap.size ≤ k) := hid (fun k hk => by
    rcases hk1.out k hk with h | h
    · simp [blk] at h
    · exact h)
  have HF1 : Hid (Frm [] w w1) := hid (by have h := hf1.out; exact h)
  clear e1 hl1 hx1 hf1 hk1
  have hrz : Rd (w1.alloc (.cells #[.int .u8 128] 5)) (some ⟨w1.heap.size, 0, none⟩) [128] :=
    (own_of_block (E := 5) (zs := [128]) (heap_alloc_new w1 _) (by simp [maxLen])).rd
  have HRZ := hid hrz
  have hfz1 : Frm [] w1 (w1.alloc (.cells #[.int .u8 128] 5)) := (Frm.refl _ _).alloc _
  have HOA := hid (ho1.out.kept hfz1 (by simp))
  have HFA := hid (HF1.out.trans hfz1 (by simp))
  have HSZ := hid HF1.out.size
  clear hrz hfz1 ho1
  go_wp2_with (at_builtin; refine wpList_appB rfl _ _ 24 rfl 5 Tryz.underlying24 infoB p1 _ c1 x1 rfl HL1.out.symm (by rw [HL1.out]; exact HOA.out) (some ⟨w1.heap.size, 0, none⟩) 1 1 [128] rfl rfl (by simp) HRZ.out (by rw [HL1.out]; simp; omega) ?_)
  intro x2 p2 c2 w2 hx2 ho2 hf2 hk2
  have hl2 : x2.length = n + 1 := by rw [hx2.out, List.length_append, HL1.out]; rfl
  rw [hl2] at ho2 ⊢
  have HX2 : Hid (x2 = zs ++ [128]) := hid (by rw [hx2.out, HX1.out])
  have HF2 : Hid (Frm [] w w2) := hid (HFA.out.trans hf2.out (fun i hi hl => by have := hK1.out i hi; omega))
  have HK2 : Hid (∀ k ∈ blk p2, w.heap.size ≤ k) := hid (fun k hk => by
    rcases hk2.out k hk with h | h
    · exact hK1.out k h
    · have := HSZ.out
      first | omega | (simp at h; omega))
  clear hx2 hf2 hk2 HFA HOA HRZ HSZ hK1 HF1 HX1 HL1
  have HO2 : Hid (Own w2 5 (.slice p2 (n + 1) c2) (x2 ++ List.replicate 0 0)) := hid (by simpa using ho2.out)
  have HL2 := hid hl2
  clear ho2 hl2
  go_wp2_with fail
  go_loopw [3] (fun v wr => ∃ (j m : Nat) (p : Option Addr) (c : Nat), v = .slice p m c ∧ Hid (m = n + 1 + j) ∧ Hid (j ≤ gapN (n + 1)) ∧ Hid ((x2 ++ List.replicate j 0).length = m) ∧ Hid (Own wr 5 (.slice p m c) (x2 ++ List.replicate j 0)) ∧ Hid (∀ k ∈ blk p, w.heap.size ≤ k) ∧ Hid (Frm [] w wr)) (fun v _ => match v with | .slice _ m _ => n + 1 + gapN (n + 1) - m | _ => 0)
  case atStart => exact ⟨0, n + 1, p2, c2, rfl, hid rfl, hid (Nat.zero_le _), hid (by simp [HL2.out]), HO2, HK2, HF2⟩
  case round =>
    clear HO2 HK2 HF2
    obtain ⟨j, m, p, c, rfl, hm, hj, hln, hown, hblk, hf⟩ := hrel
    have hj' := hj.out
    have hm' := hm.out
    by_cases hlt : m % 64 = 56
    · have hjj : j = gapN (n + 1) := by unfold gapN at hj' ⊢; omega
      have hg : ((m : Int) % 64 = 56) := by omega
      have HJJ := hid hjj
      have hgb : gapN (n + 1) < 64 := by unfold gapN; omega
      have HMM : Hid (m = n + 1 + gapN (n + 1)) := hid (by omega)
      have hmb : m + 16 ≤ 140737488355328 := by omega
      obtain ⟨Y, hY⟩ : ∃ Y, x2 ++ List.replicate j 0 = Y := ⟨_, rfl⟩
      rw [hY] at hln hown
      have HY := hid hY
      have nb : n < 9223372036854775807 := by omega
      have HLN0 : Hid ((Y ++ lenL n 0).length = m) := hid (by simpa [lenL] using hln.out)
      have HOW0 : Hid (Own wr 5 (.slice p m c) (Y ++ lenL n 0)) := hid (by simpa [lenL] using hown.out)
      clear hY hjj hgb hj' hm' hm hj hln hown
      go_wp2_with fail
      clear hg hlt
      go_loopw [5, 3] (fun i v wr => ∃ (t mm : Nat) (p : Option Addr) (c : Nat), t ≤ 8 ∧ i = .int .i64 (7 - (t : Int)) ∧ v = .slice p mm c ∧ Hid (mm = m + t) ∧ Hid ((Y ++ lenL n t).length = mm) ∧ Hid (Own wr 5 (.slice p mm c) (Y ++ lenL n t)) ∧ Hid (∀ k ∈ blk p, w.heap.size ≤ k) ∧ Hid (Frm [] w wr)) (fun i _ _ => ((intOf i) + 1).toNat)
      case atStart => exact ⟨0, m, p, c, by omega, rfl, rfl, hid rfl, HLN0, HOW0, hblk, hf⟩
      case round =>
        clear HLN0 HOW0 hblk hf
        obtain ⟨t, mm, p, c, ht, rfl, rfl, hmm, hln, hown, hblk, hf⟩ := hrel
        by_cases hlt8 : t < 8
        · have hls : lenL n (t + 1) = lenL n t ++ [lenC n (7 - t)] := rfl
          have HLS := hid hls
          have k0 : (0 : Int) ≤ 7 - (t : Int) := by omega
          have k1 : IntKind.u64.wrap (7 - (t : Int)) = 7 - (t : Int) := IntWalk.u64_in _ (by omega)
          have k2 : IntKind.u64.wrap (8 * (7 - (t : Int))) = 8 * (7 - (t : Int)) := IntWalk.u64_in _ (by omega)
          have k3 : (8 * (7 - (t : Int))).toNat = 8 * (7 - t) := by omega
          have k4 : IntKind.i64.wrap (7 - (t : Int) - 1) = 7 - (t : Int) - 1 := IntWalk.i64_in _ (by omega)
          have hmb2 : mm ≤ m + 8 := by have := hmm.out; omega
          obtain ⟨D, hD⟩ : ∃ D, lenC n (7 - t) = D := ⟨_, rfl⟩
          have HD := hid hD
          have hDe : (n : Int) * 8 / 2 ^ (8 * (7 - t)) % 256 = D := by rw [← hD, lenC, show (n : Int) * 8 % 18446744073709551616 = (n : Int) * 8 by omega]
          have hrz : Rd (wr.alloc (.cells #[.int .u8 D] 5)) (some ⟨wr.heap.size, 0, none⟩) [D] :=
            (own_of_block (E := 5) (zs := [D]) (heap_alloc_new wr _) (by simp [maxLen])).rd
          have HRZ := hid hrz
          have hfz1 : Frm [] wr (wr.alloc (.cells #[.int .u8 D] 5)) := (Frm.refl _ _).alloc _
          have HOA := hid (hown.out.kept hfz1 (by simp))
          have HFA := hid (hf.out.trans hfz1 (by simp))
          have HSZ := hid hf.out.size
          clear hrz hfz1 hown hls hD
          go_wp2_with (at_builtin; refine wpList_appB rfl _ _ 24 rfl 5 Tryz.underlying24 infoB p _ c (Y ++ lenL n t) rfl hln.out.symm (by rw [hln.out]; exact HOA.out) (some ⟨wr.heap.size, 0, none⟩) 1 1 [D] rfl rfl (by simp) HRZ.out (by rw [hln.out]; simp; omega) ?_)
          intro xs2 q2 d2 w3 hxs ho2 hf2 hfr2
          have hx3 : xs2 = Y ++ lenL n (t + 1) := by rw [hxs.out, HLS.out, HD.out]
          have hxl : xs2.length = mm + 1 := by
            have h1 := hln.out
            rw [hx3, HLS.out]
            simp only [List.length_append, List.length_cons, List.length_nil] at h1 ⊢
            omega
          have HF3 : Hid (Frm [] w w3) := hid (HFA.out.trans hf2.out (fun i hi hlt => by have := hblk.out i hi; omega))
          have HK3 : Hid (∀ k ∈ blk q2, w.heap.size ≤ k) := hid (fun k hk2 => by
            rcases hfr2.out k hk2 with h | h
            · exact hblk.out k h
            · have := HSZ.out
              first | omega | (simp at h; omega))
          have HO3 := ho2.out
          rw [hxl] at HO3 ⊢
          rw [hx3] at HO3
          have HO4 := hid HO3
          have HLX : Hid ((Y ++ lenL n (t + 1)).length = mm + 1) := hid (by rw [← hx3, hxl])
          clear hxs ho2 hf2 hfr2 hx3 hxl HFA HOA HRZ HSZ HO3 hln hblk hf hDe
          go_wp2_with fail
          go_roundw
          case rel => exact ⟨t + 1, mm + 1, q2, d2, by omega, by go_num, rfl, hid (by have := hmm.out; omega), HLX, HO4, HK3, HF3⟩
          case measure => simp [intOf]; omega
        · obtain rfl : t = 8 := by omega
          clear hlt8
          rw [show (7 : Int) - ((8 : Nat) : Int) = -1 from rfl]
          go_wp2_with fail
          go_returns
          have hpd : Y ++ lenL n 8 = padD zs := by rw [← HY.out, HX2.out, HJJ.out]; unfold padD; rw [HN.out]
          have hll := hln.out
          have hoo := hown.out
          rw [hpd] at hll hoo
          exact ⟨p, c, by rw [hll]; rfl, by rw [hll]; exact hoo, hblk.out, hf.out⟩
    · have hg : ¬ ((m : Int) % 64 = 56) := by omega
      have hg2 : ¬ ((m : Int).tmod 64 = 56) := by rw [Int.tmod_eq_emod_of_nonneg (by omega)]; exact hg
      have hjl : j + 1 ≤ gapN (n + 1) := by unfold gapN at hj' ⊢; omega
      have hgb : gapN (n + 1) < 64 := by unfold gapN; omega
      have HJL := hid hjl
      have hmb : m + 1 ≤ 140737488355328 := by omega
      have hrz : Rd (wr.alloc (.cells #[.int .u8 0] 5)) (some ⟨wr.heap.size, 0, none⟩) [0] :=
        (own_of_block (E := 5) (zs := [0]) (heap_alloc_new wr _) (by simp [maxLen])).rd
      have HRZ := hid hrz
      have hfz1 : Frm [] wr (wr.alloc (.cells #[.int .u8 0] 5)) := (Frm.refl _ _).alloc _
      have HOA := hid (hown.out.kept hfz1 (by simp))
      have HFA := hid (hf.out.trans hfz1 (by simp))
      have HSZ := hid hf.out.size
      clear hrz hfz1 hown hjl hgb hm' hj'
      go_wp2_with (at_builtin; refine wpList_appB rfl _ _ 24 rfl 5 Tryz.underlying24 infoB p _ c (x2 ++ List.replicate j 0) rfl hln.out.symm (by rw [hln.out]; exact HOA.out) (some ⟨wr.heap.size, 0, none⟩) 1 1 [0] rfl rfl (by simp) HRZ.out (by rw [hln.out]; simp; omega) ?_)
      intro xs2 q2 d2 w3 hxs ho2 hf2 hfr2
      have hx3 : xs2 = x2 ++ List.replicate (j + 1) 0 := by rw [hxs.out, List.replicate_succ']
      have hxl : xs2.length = m + 1 := by
        have h1 := hln.out
        rw [hx3]
        simp only [List.length_append, List.length_replicate] at h1 ⊢
        omega
      have HF3 : Hid (Frm [] w w3) := hid (HFA.out.trans hf2.out (fun i hi hlt => by have := hblk.out i hi; omega))
      have HK3 : Hid (∀ k ∈ blk q2, w.heap.size ≤ k) := hid (fun k hk2 => by
        rcases hfr2.out k hk2 with h | h
        · exact hblk.out k h
        · have := HSZ.out
          first | omega | (simp at h; omega))
      have HO3 := ho2.out
      rw [hxl] at HO3 ⊢
      rw [hx3] at HO3
      have HO4 := hid HO3
      have HLX : Hid ((x2 ++ List.replicate (j + 1) 0).length = m + 1) := hid (by rw [← hx3, hxl])
      clear hxs ho2 hf2 hfr2 hx3 hxl HFA HOA HRZ HSZ HO3 hln hblk hf
      go_wp2_with fail
      go_roundw
      case rel => exact ⟨j + 1, m + 1, q2, d2, rfl, hid (by have := hm.out; omega), HJL, HLX, HO4, HK3, HF3⟩
      case measure => show n + 1 + gapN (n + 1) - (m + 1) < n + 1 + gapN (n + 1) - m; have := HJL.out; have := hm.out; omega
end
end Go.Proofs.YtajfjkfnmmfhmaaGreatDoor
