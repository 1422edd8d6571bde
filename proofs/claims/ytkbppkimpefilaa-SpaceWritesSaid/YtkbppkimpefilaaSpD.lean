/- Space maps: Decode. -/
import Derived.Test.YtkbppkimpefilaaSpC
namespace Go.Proofs.Ytkbppkimpefilaa
open Go.RowKit Go.Lib
set_option maxRecDepth 100000

/-- So many bytes from a place on, as a number. -/
def numAt (bs : List Int) (o k : Nat) : Int := leV ((bs.drop o).take k)
theorem numAt_bd {bs : List Int} (hb : ∀ z ∈ bs, 0 ≤ z ∧ z < 256) (o k : Nat) : 0 ≤ numAt bs o k ∧ numAt bs o k < 2 ^ (8 * k) := by
  have h := leV_bd ((bs.drop o).take k) (fun z hz => hb z (List.mem_of_mem_drop (List.mem_of_mem_take hz)))
  refine ⟨h.1, Int.lt_of_lt_of_le h.2 ?_⟩
  have hl : ((bs.drop o).take k).length ≤ k := by rw [List.length_take]; omega
  exact_mod_cast Nat.pow_le_pow_right (by omega) (by omega : 8 * ((bs.drop o).take k).length ≤ 8 * k)
def entV (bs : List Int) (i : Nat) : Sq := ⟨decide (numAt bs (2 + 13 * i) 1 = 1), ⟨numAt bs (2 + 13 * i + 1) 6, numAt bs (2 + 13 * i + 7) 6⟩⟩
def entsV (bs : List Int) (n : Nat) : List Sq := (List.range n).map (entV bs)
theorem entsV_succ (bs : List Int) (t : Nat) : entsV bs (t + 1) = entsV bs t ++ [entV bs t] := by unfold entsV; rw [List.range_succ, List.map_append]; rfl
theorem entsV_len (bs : List Int) (n : Nat) : (entsV bs n).length = n := by simp [entsV]
def many10 (bs : List Int) : Nat := (numAt bs 0 2).toNat
def DecOk (bs : List Int) : Prop := 2 ≤ bs.length ∧ bs.length = 2 + 13 * many10 bs ∧ (∀ i, i < many10 bs → numAt bs (2 + 13 * i) 1 ≤ 1) ∧ chkE (entsV bs (many10 bs)) = 0
/-- What Decode answers. -/
def DecA (w : World) (bs : List Int) (e : Ending) (w' : World) : Prop :=
  (¬ DecOk bs ∧ e = .returned (.tuple #[.slice none 0 0, .int .i64 100]) ∧ Frm [] w w') ∨
  (DecOk bs ∧ ∃ p c, e = .returned (.tuple #[.slice p (many10 bs) c, .int .i64 0]) ∧ OwnE w' p (many10 bs) c (entsV bs (many10 bs)) ∧ Frm [] w w' ∧ ∀ k ∈ blk p, w.heap.size ≤ k)
theorem entsV_in {bs : List Int} (hb : ∀ z ∈ bs, 0 ≤ z ∧ z < 256) (n : Nat) : InE (entsV bs n) := fun y hy => by
  obtain ⟨i, _, rfl⟩ := List.mem_map.1 hy
  have h1 := numAt_bd hb (2 + 13 * i + 1) 6
  have h2 := numAt_bd hb (2 + 13 * i + 7) 6
  unfold entV Sp.In
  simp only
  omega
theorem numR10_ok (w0 w : World) (b g : Nat) (bs : List Int) (hb : ∀ z ∈ bs, 0 ≤ z ∧ z < 256) (pos k : Nat) (h : FreshR w0 w b g bs pos 0) (hk1 : 1 ≤ k) (hk8 : k ≤ 8) (hl : pos + k ≤ bs.length) :
    Calls Try.prog 58 #[.pointer (some ⟨b, 0, none⟩), .int .i64 (k : Int)] w fun e w' => e = .returned (.int .u64 (numAt bs pos k)) ∧ FreshR w0 w' b g bs (pos + k) 0 ∧ Frm [b] w w' := by
  refine (numR_any b g pos bs hb 0 k w h.1 (by omega) (by omega)).mono ?_
  have e : readS 0 pos 0 (numT (bs.drop pos) (k : Int)) = (numAt bs pos k, pos + k, 0) := by
    rw [readS_ok]
    unfold numT
    rw [if_neg (by omega), if_neg (by rw [List.length_drop]; omega)]
    simp [numAt]
  rw [e]
  rintro e w' ⟨h1, h2, h3⟩
  exact ⟨h1, h.next h2 h3, h3⟩
theorem make10 (c : Nat) (hc : c ≤ 100000) (w : World) :
    (Instr.makeSlice 22 (.int .i64 0) (.int .i64 (c : Int))).run Try.prog w = .ok (.slice (some ⟨w.heap.size, 0, none⟩) 0 c) (w.alloc (.cells (madeCells #[.bool false, .int .i64 0, .int .i64 0] (c * 3)) 41)) := by
  obtain ⟨i, hi, hz, h1, h2⟩ := info_parts infoSq
  have hr := run_make (P := Try.prog) w 22 41 i (.agg #[.bool false, .int .i64 0, .int .i64 0]) Try.underlying22 hi hz .i64 .i64 0 c (Int.le_refl _) (by omega) (by rw [h2]; omega) (by omega)
  rw [show (Value.agg #[.bool false, .int .i64 0, .int .i64 0]).cells = #[.bool false, .int .i64 0, .int .i64 0] from rfl, h1] at hr
  simpa using hr
theorem numR10_short (w0 w : World) (b g : Nat) (bs : List Int) (hb : ∀ z ∈ bs, 0 ≤ z ∧ z < 256) (k : Nat) (h : FreshR w0 w b g bs 0 0) (hk1 : 1 ≤ k) (hk8 : k ≤ 8) (hl : bs.length < k) :
    Calls Try.prog 58 #[.pointer (some ⟨b, 0, none⟩), .int .i64 (k : Int)] w fun e w' => e = .returned (.int .u64 0) ∧ FreshR w0 w' b g bs 0 10 ∧ Frm [b] w w' := by
  refine (numR_any b g 0 bs hb 0 k w h.1 (by omega) (by omega)).mono ?_
  have e : readS 0 0 0 (numT (bs.drop 0) (k : Int)) = (0, 0, 10) := by
    rw [readS_ok]
    unfold numT
    rw [if_neg (by omega), if_pos (by rw [List.length_drop]; omega)]
    simp
  rw [e]
  rintro e w' ⟨h1, h2, h3⟩
  exact ⟨h1, h.next h2 h3, h3⟩
theorem FreshR.away {w0 w w' : World} {b g : Nat} {bs : List Int} {pos : Nat} {err : Int} {T : List Nat} (h : FreshR w0 w b g bs pos err) (hf : Frm T w w') (h1 : b ∉ T) (h2 : g ∉ T) (h3 : ∀ k ∈ T, w0.heap.size ≤ k) : FreshR w0 w' b g bs pos err :=
  ⟨h.1.kept hf h1 h2, h.2.1.trans hf (fun k hk hkl => by have := h3 k hk; omega), h.2.2⟩
/-- Where Decode stands in a round: its reader, its list, its variable. -/
structure DS (w0 w : World) (b g : Nat) (bs : List Int) (pos : Nat) (pk : Option Addr) (t ck : Nat) : Prop where
  r : FreshR w0 w b g bs pos 0
  o : OwnE w pk t ck (entsV bs t)
  n : ∀ k ∈ blk pk, w0.heap.size ≤ k ∧ k ≠ b ∧ k ≠ g
theorem DS.k0 {w0 w w' : World} {b g : Nat} {bs : List Int} {pos : Nat} {pk : Option Addr} {t ck : Nat} (h : DS w0 w b g bs pos pk t ck) (hf : Frm [] w w') : DS w0 w' b g bs pos pk t ck :=
  ⟨h.r.away hf (by simp) (by simp) (by simp), h.o.kept hf (by simp), h.n⟩
theorem DS.read {w0 w w' : World} {b g : Nat} {bs : List Int} {pos pos' : Nat} {pk : Option Addr} {t ck : Nat} (h : DS w0 w b g bs pos pk t ck) (h1 : FreshR w0 w' b g bs pos' 0) (hf : Frm [b] w w') : DS w0 w' b g bs pos' pk t ck :=
  ⟨h1, h.o.kept hf (fun k hk hm => by simp at hm; exact (h.n k hk).2.1 hm), h.n⟩
theorem DS.low {w0 w : World} {b g : Nat} {bs : List Int} {pos : Nat} {pk : Option Addr} {t ck : Nat} (h : DS w0 w b g bs pos pk t ck) : b < w.heap.size ∧ g < w.heap.size ∧ ∀ k ∈ blk pk, k < w.heap.size := by
  obtain ⟨h1, h2, _⟩ := h.r.1.cells
  exact ⟨h1, h2, fun k hk => ownsRow_low h.o.1 k hk⟩
theorem DS.set {w0 w w' : World} {b g : Nat} {bs : List Int} {pos : Nat} {pk : Option Addr} {t ck bx : Nat} (h : DS w0 w b g bs pos pk t ck) (hf : Frm [bx] w w') (h1 : b ≠ bx) (h2 : g ≠ bx) (h3 : bx ∉ blk pk) (h4 : w0.heap.size ≤ bx) : DS w0 w' b g bs pos pk t ck :=
  ⟨h.r.away hf (by simpa using h1) (by simpa using h2) (by simpa using h4), h.o.kept hf (fun k hk hm => by simp at hm; subst hm; exact h3 hk), h.n⟩
set_option maxHeartbeats 6400000 in
theorem decE_any (p : Option Addr) (c : Nat) (bs : List Int) (hb : ∀ z ∈ bs, 0 ≤ z ∧ z < 256) (w : World) (hrd : Rd w p bs) (hl : bs.length ≤ 140737488355328) :
    Calls Try.prog 23 #[.slice p bs.length c] w (DecA w bs) := by
  obtain ⟨PO, hPO⟩ : ∃ PO : Ending → World → Prop, DecA w bs = PO := ⟨_, rfl⟩
  rw [hPO]
  have HP1 : Hid (∀ w', ¬ DecOk bs → Frm [] w w' → PO (.returned (.tuple #[.slice none 0 0, .int .i64 100])) w') := hid (fun w' h1 h2 => by
    rw [← hPO]
    exact Or.inl ⟨h1, rfl, h2⟩)
  have HP2 : Hid (∀ p c n w', n = many10 bs → DecOk bs → OwnE w' p n c (entsV bs n) → Frm [] w w' → (∀ k ∈ blk p, w.heap.size ≤ k) → PO (.returned (.tuple #[.slice p n c, .int .i64 0])) w') := hid (fun p c n w' h0 h1 h2 h3 h4 => by
    rw [← hPO]
    subst h0
    exact Or.inr ⟨h1, p, c, rfl, h2, h3, h4⟩)
  have HB := hid hb
  have HNR := hid (newReader_any p c bs w hrd hl)
  obtain ⟨L, hL⟩ : ∃ q, bs.length = q := ⟨_, rfl⟩
  rw [hL] at HNR hl ⊢
  have HL := hid hL
  clear hb hrd hPO hL
  go_enter Try.func23, Try.ntmps23
  go_wp2_with fail
  refine HNR.out.mono ?_
  rintro e w1 ⟨b, g, rfl, hr1, hf1, hb1, hg1⟩
  have HR1 : Hid (FreshR w w1 b g bs 0 0) := hid ⟨hr1, hf1, hb1, hg1⟩
  clear hr1 hf1 hb1 hg1 HNR
  by_cases hsh : L < 2
  · go_wp2_with fail
    refine (numR10_short w w1 b g bs HB.out 2 HR1.out (by omega) (by omega) (by rw [HL.out]; exact hsh)).mono ?_
    rintro e w2 ⟨rfl, hr2, _⟩
    have HR2 := hid hr2
    have HND : Hid (¬ DecOk bs) := hid (fun h => by have := h.1; rw [HL.out] at this; omega)
    have HLE := hid (left_any b g 0 bs 10 w2 hr2.1)
    clear hr2 HR1
    rw [HL.out] at HLE
    go_wp2_with fail
    refine HLE.out.mono ?_
    rintro e w3 ⟨rfl, n3, hw3⟩
    have HR3 : Hid (FreshR w w3 b g bs 0 10) := hid (by rw [hw3]; exact HR2.out.drewN n3)
    clear hw3 HR2 HLE
    by_cases h0 : L = 0
    · subst h0
      have hmk := make10 0 (by omega)
      rw [show ((0 : Nat) : Int) = 0 from rfl] at hmk
      have HRA := hid ((HR3.out).away ((Frm.refl [] w3).alloc (.cells (madeCells #[.bool false, .int .i64 0, .int .i64 0] (0 * 3)) 41)) (by simp) (by simp) (by simp))
      obtain ⟨wa, hwa⟩ : ∃ q, w3.alloc (.cells (madeCells #[.bool false, .int .i64 0, .int .i64 0] (0 * 3)) 41) = q := ⟨_, rfl⟩
      rw [hwa] at HRA
      have HWA := hid hwa
      have HDN := hid (doneR_any b g 0 bs 10 wa HRA.out.1)
      rw [show doneS bs.length 0 10 = 10 by unfold doneS; rw [if_neg (by omega)]] at HDN
      clear hwa
      go_upto_region 6 with fail
      rw [HWA.out]
      clear HWA hmk
      go_wp2_with fail
      go_loopw [22] (fun i wr => i = .int .i64 0 ∧ wr = wa) (fun _ _ => 0)
      case atStart => exact ⟨rfl, rfl⟩
      case round =>
        obtain ⟨rfl, rfl⟩ := hrel
        go_wp2_with fail
        refine HDN.out.mono ?_
        rintro e w5 ⟨rfl, n5, hw5⟩
        have HF5 : Hid (Frm [] w w5) := hid (by rw [hw5]; exact HRA.out.2.1.drewN n5)
        clear hw5
        go_wp2_with fail
        first | go_returns | skip
        exact HP1.out w5 HND.out HF5.out
    · have h1 : L = 1 := by omega
      subst h1
      go_wp2_with fail
      first | go_returns | skip
      exact HP1.out w3 HND.out HR3.out.2.1
  · obtain ⟨N, hNN⟩ : ∃ q, many10 bs = q := ⟨_, rfl⟩
    have hbd := numAt_bd HB.out 0 2
    have hNv : numAt bs 0 2 = (N : Int) := by rw [← hNN]; unfold many10; omega
    have hN6 : N < 65536 := by rw [hNv] at hbd; omega
    have HNU := hid (numR10_ok w w1 b g bs HB.out 0 2 HR1.out (by omega) (by omega) (by rw [HL.out]; omega))
    rw [hNv] at HNU
    have HNN := hid hNN
    have hwN : IntKind.i64.wrap (N : Int) = (N : Int) := IntWalk.i64_in _ ⟨by omega, by omega⟩
    have hwM : IntKind.i64.wrap ((N : Int) * 13) = (N : Int) * 13 := IntWalk.i64_in _ ⟨by omega, by omega⟩
    clear hbd hNv hNN
    go_wp2_with fail
    refine HNU.out.mono ?_
    rintro e w2 ⟨rfl, hr2, _⟩
    have HR2 := hid hr2
    have HLE := hid (left_any b g 2 bs 0 w2 hr2.1)
    rw [HL.out] at HLE
    clear hr2 HNU HR1
    by_cases hLN : L = 2 + 13 * N
    · rw [show ((L - 2 : Nat) : Int) = (N : Int) * 13 by omega] at HLE
      have hmk := make10 N (by omega)
      go_wp2_with fail
      refine HLE.out.mono ?_
      rintro e w3 ⟨rfl, n3, hw3⟩
      have HR3 : Hid (FreshR w w3 b g bs 2 0) := hid (by rw [hw3]; exact HR2.out.drewN n3)
      obtain ⟨wa, hwa⟩ : ∃ q, w3.alloc (.cells (madeCells #[.bool false, .int .i64 0, .int .i64 0] (N * 3)) 41) = q := ⟨_, rfl⟩
      obtain ⟨gk, hgk⟩ : ∃ q, w3.heap.size = q := ⟨_, rfl⟩
      have HDS : Hid (DS w wa b g bs (2 + 13 * 0) (some ⟨gk, 0, none⟩) 0 N) := hid (by
        obtain ⟨q1, q2, _⟩ := HR3.out.1.cells
        have hfa : Frm [] w3 wa := by rw [← hwa]; exact (Frm.refl _ _).alloc _
        refine ⟨HR3.out.away hfa (by simp) (by simp) (by simp), OwnE.of (C := (madeCells #[.bool false, .int .i64 0, .int .i64 0] (N * 3)).toList) (by rw [← hwa]; simpa using heap_alloc_to w3 (.cells (madeCells #[.bool false, .int .i64 0, .int .i64 0] (N * 3)) 41) hgk) (Nat.zero_le _) (by unfold maxLen; omega) (by simp [size_madeCells]) (by simp [entsV, rowE]) (by simp [entsV]), fun k hk => ?_⟩
        simp [blk] at hk
        subst hk
        have := HR3.out.2.1.size
        exact ⟨by omega, by omega, by omega⟩)
      have HWA := hid hwa
      have HGK := hid hgk
      clear hwa hgk hw3 HLE HR2 HR3
      go_upto_region 6 with fail
      rw [HGK.out, HWA.out]
      clear HWA HGK hmk
      go_wp2_with fail
      go_loopw [22, 6] (fun i s6 wr => ∃ (t : Nat) (pk : Option Addr) (ck : Nat), t ≤ N ∧ i = .int .i64 (t : Int) ∧ s6 = .slice pk t ck ∧ Hid (DS w wr b g bs (2 + 13 * t) pk t ck) ∧ Hid (∀ i, i < t → numAt bs (2 + 13 * i) 1 ≤ 1)) (fun i _ _ => N - (intOf i).toNat)
      case atStart => exact ⟨0, some ⟨gk, 0, none⟩, N, Nat.zero_le _, rfl, rfl, HDS, hid (fun i hi => by omega)⟩
      case round =>
        clear HDS
        obtain ⟨t, pk, ck, ht, rfl, rfl, hds, hfl⟩ := hrel
        by_cases hlt : t < N
        · have t1 : (t : Int) < (N : Int) := by omega
          have HNU := hid (numR10_ok w wr b g bs HB.out (2 + 13 * t) 1 hds.out.r (by omega) (by omega) (by rw [HL.out]; omega))
          obtain ⟨v0, hv0⟩ : ∃ q, numAt bs (2 + 13 * t) 1 = q := ⟨_, rfl⟩
          have hb0 := numAt_bd HB.out (2 + 13 * t) 1
          rw [hv0] at HNU hb0
          have HV0 := hid hv0
          have HB0 := hid hb0
          obtain ⟨fb, hfb⟩ : ∃ q, decide (v0 = 1) = q := ⟨_, rfl⟩
          have hfb2 : (v0 == 1) = fb := by rw [← hfb]; rfl
          have HFB := hid hfb
          clear hv0 hb0
          go_wp2_with fail
          refine HNU.out.mono ?_
          rintro e w3 ⟨rfl, hr3, hf3⟩
          have HD3 := hid (hds.out.read hr3 hf3)
          obtain ⟨bx, hbx⟩ : ∃ q, w3.heap.size = q := ⟨_, rfl⟩
          obtain ⟨w4, hw4⟩ : ∃ q, w3.alloc (.cells #[.bool fb, .int .i64 0, .int .i64 0] 41) = q := ⟨_, rfl⟩
          have h4 : Frm [] w3 w4 := by rw [← hw4]; exact (Frm.refl _ _).alloc _
          have HX4 : Hid (w4.heap[bx]? = some (.cells #[.bool fb, .int .i64 0, .int .i64 0] 41 (0, 0))) := hid (by rw [← hw4]; exact heap_alloc_to _ _ hbx)
          have HAP : Hid (b ≠ bx ∧ g ≠ bx ∧ bx ∉ blk pk ∧ w.heap.size ≤ bx) := hid (by
            obtain ⟨q1, q2, q3⟩ := HD3.out.low
            have := HD3.out.r.2.1.size
            exact ⟨by omega, by omega, fun hm => by have := q3 bx hm; omega, by omega⟩)
          have HD4 := hid (HD3.out.k0 h4)
          have HW4 := hid hw4
          have HBX := hid hbx
          clear hw4 hbx h4 hr3 hf3 HNU HD3 hds
          go_upto_region 10 with fail
          rw [HBX.out, HW4.out]
          clear HW4 HBX hfb hfb2
          have HNV := hid (numR10_ok w w4 b g bs HB.out (2 + 13 * t + 1) 6 HD4.out.r (by omega) (by omega) (by rw [HL.out]; omega))
          obtain ⟨v1, hv1⟩ : ∃ q, numAt bs (2 + 13 * t + 1) 6 = q := ⟨_, rfl⟩
          have hb1 := numAt_bd HB.out (2 + 13 * t + 1) 6
          rw [hv1] at HNV hb1
          have HV1 := hid hv1
          have hw1 : IntKind.i64.wrap v1 = v1 := IntWalk.i64_in _ ⟨by omega, by omega⟩
          clear hv1 hb1
          go_wp2_with fail
          refine HNV.out.mono ?_
          rintro e w5 ⟨rfl, hr5, hf5⟩
          have HD5 := hid (HD4.out.read hr5 hf5)
          have hx5 : w5.heap[bx]? = some (.cells #[.bool fb, .int .i64 0, .int .i64 0] 41 (0, 0)) := hf5.heap HX4.out (by simp; exact fun e => HAP.out.1 e.symm)
          have z0 : w5.frozen? ⟨bx, 1, none⟩ = false := frozen_of_row _ _ _ _ _ hx5
          have hx6 := heap_setCell_same w5 bx 1 _ _ (.int .i64 v1) (by simpa using hx5)
          obtain ⟨w6, hw6⟩ : ∃ q, w5.setCell ⟨bx, 1, none⟩ (.int .i64 v1) = q := ⟨_, rfl⟩
          rw [hw6] at hx6
          have HX6 : Hid (w6.heap[bx]? = some (.cells #[.bool fb, .int .i64 v1, .int .i64 0] 41 (0, 0))) := hid (by simpa using hx6)
          have HF6 : Hid (Frm [bx] w5 w6) := hid (by rw [← hw6]; exact (Frm.refl _ _).setCell _ _ (by simp))
          have HD6 := hid (HD5.out.set HF6.out HAP.out.1 HAP.out.2.1 HAP.out.2.2.1 HAP.out.2.2.2)
          have HW6 := hid hw6
          have y0 : w5.cell? ⟨bx, 1, none⟩ = some (.int .i64 0) := by rw [cell_of_row _ _ _ _ _ _ hx5]; rfl
          clear hr5 hf5 hw6 hx6 hx5 HNV HD4 HX4
          go_upto_region 11 with fail
          rw [HW6.out]
          clear HW6 z0 y0 HD5
          have HNV := hid (numR10_ok w w6 b g bs HB.out (2 + 13 * t + 7) 6 HD6.out.r (by omega) (by omega) (by rw [HL.out]; omega))
          obtain ⟨v2, hv2⟩ : ∃ q, numAt bs (2 + 13 * t + 7) 6 = q := ⟨_, rfl⟩
          have hb2 := numAt_bd HB.out (2 + 13 * t + 7) 6
          rw [hv2] at HNV hb2
          have HV2 := hid hv2
          have hw2 : IntKind.i64.wrap v2 = v2 := IntWalk.i64_in _ ⟨by omega, by omega⟩
          clear hv2 hb2
          go_wp2_with fail
          refine HNV.out.mono ?_
          rintro e w7 ⟨rfl, hr7, hf7⟩
          have HD7 : Hid (DS w w7 b g bs (2 + 13 * (t + 1)) pk t ck) := hid (by have h := HD6.out.read hr7 hf7; rw [show 2 + 13 * t + 7 + 6 = 2 + 13 * (t + 1) by omega] at h; exact h)
          have hx7 : w7.heap[bx]? = some (.cells #[.bool fb, .int .i64 v1, .int .i64 0] 41 (0, 0)) := hf7.heap HX6.out (by simp; exact fun e => HAP.out.1 e.symm)
          have z0 : w7.frozen? ⟨bx, 2, none⟩ = false := frozen_of_row _ _ _ _ _ hx7
          have y0 : w7.cell? ⟨bx, 2, none⟩ = some (.int .i64 0) := by rw [cell_of_row _ _ _ _ _ _ hx7]; rfl
          have hx8 := heap_setCell_same w7 bx 2 _ _ (.int .i64 v2) (by simpa using hx7)
          obtain ⟨w8, hw8⟩ : ∃ q, w7.setCell ⟨bx, 2, none⟩ (.int .i64 v2) = q := ⟨_, rfl⟩
          rw [hw8] at hx8
          have HX8 : Hid (w8.heap[bx]? = some (.cells #[.bool fb, .int .i64 v1, .int .i64 v2] 41 (0, 0))) := hid (by simpa using hx8)
          have HF8 : Hid (Frm [bx] w7 w8) := hid (by rw [← hw8]; exact (Frm.refl _ _).setCell _ _ (by simp))
          have HD8 := hid (HD7.out.set HF8.out HAP.out.1 HAP.out.2.1 HAP.out.2.2.1 HAP.out.2.2.2)
          have HW8 := hid hw8
          clear hr7 hf7 hw8 hx8 hx7 HNV HD6 HX6
          go_upto_region 12 with fail
          rw [HW8.out]
          clear HW8 z0 y0 HD7 hw1 hw2
          by_cases hgt : 1 < v0
          · have HND : Hid (¬ DecOk bs) := hid (fun h => by
              have := h.2.2.1 t (by rw [HNN.out]; exact hlt)
              rw [HV0.out] at this
              omega)
            go_wp2_with fail
            first | go_returns | skip
            exact HP1.out w8 HND.out HD8.out.r.2.1
          · obtain ⟨x0, x1, x2⟩ := sq_cells (W := w8) (b := bx) (y := ⟨fb, ⟨v1, v2⟩⟩) HX8.out
            have h9 : Frm [] w8 (w8.alloc (.cells #[.bool fb, .int .i64 v1, .int .i64 v2] 41)) := (Frm.refl _ _).alloc _
            have HOW := hid (ownsRow_kept HD8.out.o.1 h9 (by simp))
            have HRV := hid (rv_block (heap_alloc_new w8 (.cells #[.bool fb, .int .i64 v1, .int .i64 v2] 41)))
            have HEV : Hid (rowE (entsV bs t) ++ [.bool fb, .int .i64 v1, .int .i64 v2] = rowE (entsV bs (t + 1))) := hid (by
              rw [entsV_succ, rowE_app]
              unfold entV
              rw [HV0.out, HV1.out, HV2.out, HFB.out]
              rfl)
            have HFL : Hid (∀ i, i < t + 1 → numAt bs (2 + 13 * i) 1 ≤ 1) := hid (fun i hi => by
              by_cases h : i < t
              · exact hfl.out i h
              · obtain rfl : i = t := by omega
                rw [HV0.out]; omega)
            have HF9 := hid h9
            clear h9
            go_wp2_with (at_builtin; refine wpList_appV rfl _ _ 22 rfl 41 3 24 _ Try.underlying22 infoSq rfl (by decide) pk t ck (rowE (entsV bs t)) rfl HOW.out (some ⟨w8.heap.size, 0, none⟩) 1 1 [.bool fb, .int .i64 v1, .int .i64 v2] rfl rfl (by simp) HRV.out (by intro u hu; simp at hu; rcases hu with rfl | rfl | rfl <;> rfl) (by unfold maxLen; omega) (by omega) ?_)
            intro p6 c6 w9 ho9 hf9 hb9
            have HD9 : Hid (DS w w9 b g bs (2 + 13 * (t + 1)) p6 (t + 1) c6) := hid (by
              have hA := HD8.out.k0 HF9.out
              obtain ⟨q1, q2, q3⟩ := HD8.out.low
              refine ⟨hA.r.away hf9.out (fun hm => (hA.n b hm).2.1 rfl) (fun hm => (hA.n g hm).2.2 rfl) (fun k hk => (hA.n k hk).1), ⟨by rw [← HEV.out]; exact ho9.out, entsV_len _ _⟩, fun k hk => ?_⟩
              rcases hb9.out k hk with h | h
              · exact hA.n k h
              · have h1 := HF9.out.size
                have h2 := HD8.out.r.2.1.size
                exact ⟨by omega, by omega, by omega⟩)
            clear ho9 hf9 hb9 x0 x1 x2 HOW HRV HF9 HD8
            go_wp2_with fail
            go_roundw
            case rel => exact ⟨t + 1, p6, c6, by omega, by go_num, by go_num, HD9, HFL⟩
            case measure => simp [intOf]; omega
        · obtain rfl : N = t := by omega
          have HDN := hid (doneR_any b g (2 + 13 * N) bs 0 wr hds.out.r.1)
          rw [show doneS bs.length (2 + 13 * N) 0 = 0 by unfold doneS; rw [HL.out, hLN, if_neg (by omega)]] at HDN
          go_wp2_with fail
          refine HDN.out.mono ?_
          rintro e w5 ⟨rfl, n5, hw5⟩
          have HD5 : Hid (DS w w5 b g bs (2 + 13 * N) pk N ck) := hid (by rw [hw5]; exact hds.out.k0 ((Frm.refl [] wr).drewN n5))
          have HCK := hid (chkE_any pk N ck (entsV bs N) w5 HD5.out.o.rv (entsV_len _ _) (entsV_in HB.out N) (by omega))
          clear hw5 HDN hds
          obtain ⟨C, hC⟩ : ∃ C, chkE (entsV bs N) = C := ⟨_, rfl⟩
          rw [hC] at HCK
          have HC := hid hC
          clear hC
          go_wp2_with fail
          refine HCK.out.mono ?_
          rintro e w6 ⟨rfl, hf6⟩
          have HD6 := hid (HD5.out.k0 hf6)
          clear hf6 HCK HD5
          by_cases hC0 : C = 0
          · subst hC0
            have HOK : Hid (DecOk bs) := hid ⟨by rw [HL.out]; omega, by rw [HL.out, HNN.out]; exact hLN, fun i hi => hfl.out i (by rw [← HNN.out]; exact hi), by rw [HNN.out]; exact HC.out⟩
            go_wp2_with fail
            first | go_returns | skip
            exact HP2.out pk ck N w6 HNN.out.symm HOK.out HD6.out.o HD6.out.r.2.1 (fun k hk => (HD6.out.n k hk).1)
          · have hbC : (C != 0) = true := by simpa using hC0
            have HND : Hid (¬ DecOk bs) := hid (fun h => hC0 (by rw [← HC.out, ← HNN.out]; exact h.2.2.2))
            go_wp2_with fail
            first | go_returns | skip
            exact HP1.out w6 HND.out HD6.out.r.2.1
    · obtain ⟨R, hR⟩ : ∃ q : Int, ((L - 2 : Nat) : Int) = q := ⟨_, rfl⟩
      have hne : ¬ R = (N : Int) * 13 := by omega
      have hne2 : (R != (N : Int) * 13) = true := by simpa using hne
      rw [hR] at HLE
      have HND : Hid (¬ DecOk bs) := hid (fun h => by
        have := h.2.1
        rw [HL.out, HNN.out] at this
        exact hLN this)
      clear hR
      go_wp2_with fail
      refine HLE.out.mono ?_
      rintro e w3 ⟨rfl, n3, hw3⟩
      have HR3 : Hid (FreshR w w3 b g bs 2 0) := hid (by rw [hw3]; exact HR2.out.drewN n3)
      clear hw3 HLE HR2
      go_wp2_with fail
      first | go_returns | skip
      exact HP1.out w3 HND.out HR3.out.2.1
end Go.Proofs.Ytkbppkimpefilaa
