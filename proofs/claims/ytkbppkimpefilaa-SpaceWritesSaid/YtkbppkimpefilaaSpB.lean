/- Space maps: what may be, Encode. -/
import Derived.Test.YtkbppkimpefilaaSpA
import Derived.Deep.DeepCutAuto
namespace Go.Proofs.Ytkbppkimpefilaa
open Go.RowKit Go.Lib
set_option maxRecDepth 100000

theorem FreshW.alloc10 {w0 w : World} {b : Nat} {room : Int} {s : List Int × Int} {A : List Nat} (h : FreshW w0 w b room s A) (o : Obj) : FreshW w0 (w.alloc o) b room s (w.heap.size :: A) := by
  obtain ⟨fp, h1, h2, h3, h4⟩ := h
  have hf : Frm [] w (w.alloc o) := (Frm.refl _ _).alloc _
  refine ⟨fp, h1.kept hf (by simp), h2.trans hf (by simp), h3, fun k hk => ?_⟩
  rcases List.mem_cons.1 hk with rfl | hk
  · exact ⟨fun hm => absurd (h1.lt _ hm) (Nat.lt_irrefl _), by simp⟩
  · exact ⟨(h4 k hk).1, Nat.lt_of_lt_of_le (h4 k hk).2 hf.size⟩
theorem FreshW.less10 {w0 w : World} {b : Nat} {room : Int} {s : List Int × Int} {A B : List Nat} (h : FreshW w0 w b room s A) (hB : ∀ k ∈ B, k ∈ A) : FreshW w0 w b room s B := by
  obtain ⟨fp, h1, h2, h3, h4⟩ := h
  exact ⟨fp, h1, h2, h3, fun k hk => h4 k (hB k hk)⟩
/-- A number that fits is laid down. -/
theorem num10_fit (w0 w : World) (b : Nat) (room : Int) (zs : List Int) (A : List Nat) (hw : FreshW w0 w b room (zs, 0) A) (hr1 : room ≤ 2147483647) (n : Int) (k : Nat) (hn : 0 ≤ n) (hk1 : 1 ≤ k) (hk8 : k ≤ 8) (hfit : n < 2 ^ (8 * k)) (hz : (zs.length : Int) + k ≤ room) :
    Calls Try.prog 47 #[.pointer (some ⟨b, 0, none⟩), .int .u64 n, .int .i64 (k : Int)] w fun e w' => e = .returned (.tuple #[]) ∧ FreshW w0 w' b room (zs ++ le n k, 0) A ∧ Keeps A w w' := by
  have h2 : (2 : Int) ^ (8 * k) ≤ 18446744073709551616 := by
    have hk : k = 1 ∨ k = 2 ∨ k = 3 ∨ k = 4 ∨ k = 5 ∨ k = 6 ∨ k = 7 ∨ k = 8 := by omega
    rcases hk with rfl | rfl | rfl | rfl | rfl | rfl | rfl | rfl <;> decide
  have h := numF_any w0 w b room (zs, 0) A hw (by omega) hr1 (by simp only; omega) n (k : Int) hn (by omega) (by omega) (by omega)
  have e : stepW room (zs, 0) (numF n (k : Int)) = (zs ++ le n k, 0) := by
    have h0 : n / 2 ^ (8 * k) = 0 := Int.ediv_eq_zero_of_lt hn hfit
    unfold numF
    rw [if_neg (by omega), Int.toNat_natCast, if_neg (by rw [h0]; simp)]
    unfold stepW
    simp only [ne_eq, not_true, if_false]
    rw [if_neg (by rw [le_length]; omega)]
  rw [e] at h
  exact h
set_option maxHeartbeats 3200000 in
theorem mayE_any (y : Sp) (h : y.In) (w : World) : Calls Try.prog 81 #[.agg #[.int .i64 y.a, .int .i64 y.m]] w fun e w' => e = .returned (.bool (decide (May9 y))) ∧ Frm [] w w' := by
  obtain ⟨⟨h1, h2⟩, h3, h4⟩ := h
  obtain ⟨a, m⟩ := y
  simp only at h1 h2 h3 h4
  obtain ⟨PO, hPO⟩ : ∃ PO : Ending → World → Prop, (fun e w' => e = .returned (.bool (decide (May9 ⟨a, m⟩))) ∧ Frm [] w w') = PO := ⟨_, rfl⟩
  rw [hPO]
  have HP : Hid (∀ b w', (b = true ↔ May9 ⟨a, m⟩) → Frm [] w w' → PO (.returned (.bool b)) w') := hid (fun b w' h1 h2 => by
    rw [← hPO]
    refine ⟨?_, h2⟩
    have : b = decide (May9 ⟨a, m⟩) := by by_cases h : May9 ⟨a, m⟩ <;> cases b <;> simp_all
    rw [this])
  clear hPO
  go_enter Try.func81, Try.ntmps81
  by_cases c1 : 0 ≤ a
  · by_cases c2 : 1 ≤ m
    · by_cases c3 : m ≤ 1099511627776
      · by_cases c4 : a ≤ 1099511627776 - m
        · go_wp2_with fail
          first | go_returns | skip
          exact HP.out _ _ ⟨fun _ => ⟨c1, c2, c3, c4⟩, fun _ => rfl⟩ ((Frm.refl _ _).alloc _)
        · go_wp2_with fail
          first | go_returns | skip
          exact HP.out _ _ ⟨fun h => by simp at h, fun h => absurd h.2.2.2 (by show ¬ a ≤ 1099511627776 - m; omega)⟩ ((Frm.refl _ _).alloc _)
      · go_wp2_with fail
        first | go_returns | skip
        exact HP.out _ _ ⟨fun h => by simp at h, fun h => absurd h.2.2.1 (by show ¬ m ≤ 1099511627776; omega)⟩ ((Frm.refl _ _).alloc _)
    · go_wp2_with fail
      first | go_returns | skip
      exact HP.out _ _ ⟨fun h => by simp at h, fun h => absurd h.2.1 (by show ¬ 1 ≤ m; omega)⟩ ((Frm.refl _ _).alloc _)
  · go_wp2_with fail
    first | go_returns | skip
    exact HP.out _ _ ⟨fun h => by simp at h, fun h => absurd h.1 (by show ¬ 0 ≤ a; omega)⟩ ((Frm.refl _ _).alloc _)
/-- The cells of an entry that was made. -/
theorem sq_cells {W : World} {b : Nat} {y : Sq} (h : W.heap[b]? = some (.cells #[.bool y.f, .int .i64 y.s.a, .int .i64 y.s.m] 41 (0, 0))) :
    W.cell? ⟨b, 0, none⟩ = some (.bool y.f) ∧ W.cell? ⟨b, 1, none⟩ = some (.int .i64 y.s.a) ∧ W.cell? ⟨b, 2, none⟩ = some (.int .i64 y.s.m) := by
  refine ⟨?_, ?_, ?_⟩ <;> (rw [cell_of_row W _ _ _ _ _ h]; rfl)
set_option maxHeartbeats 3200000 in
theorem chkE_any (p : Option Addr) (n c : Nat) (es : List Sq) (w : World) (hr : Rv w p (rowE es)) (hn : es.length = n) (hin : InE es) (hc : n ≤ 9223372036854775807) :
    Calls Try.prog 45 #[.slice p n c] w fun e w' => e = .returned (.int .i64 (chkE es)) ∧ Frm [] w w' := by
  have HR := hid (fun W (hf : Frm [] w W) => hr.kept hf (by simp))
  have HN := hid hn
  have HIN := hid hin
  obtain ⟨PO, hPO⟩ : ∃ PO : Ending → World → Prop, (fun e w' => e = .returned (.int .i64 (chkE es)) ∧ Frm [] w w') = PO := ⟨_, rfl⟩
  rw [hPO]
  have HP : Hid (∀ E w', E = chkE es → Frm [] w w' → PO (.returned (.int .i64 E)) w') := hid (fun E w' h1 h2 => by
    rw [← hPO]
    exact ⟨by rw [h1], h2⟩)
  clear hPO hr hn hin
  go_enter Try.func45, Try.ntmps45
  by_cases hbig : 4096 < n
  · have t0 : (4096 : Int) < (n : Int) := by omega
    have HE : Hid (2 = chkE es) := hid (by unfold chkE; rw [if_pos (by rw [HN.out]; exact hbig)])
    go_wp2_with fail
    first | go_returns | skip
    exact HP.out _ _ HE.out (Frm.refl _ _)
  · have t0 : ¬ (4096 : Int) < (n : Int) := by omega
    go_wp2_with fail
    go_loopw [10] (fun i wr => ∃ t : Nat, t ≤ n ∧ i = .int .i64 (t : Int) ∧ Hid (Frm [] w wr) ∧ Hid (∀ y ∈ es.take t, May9 y.s)) (fun i _ => n - (intOf i).toNat)
    case atStart => exact ⟨0, Nat.zero_le _, rfl, hid (Frm.refl _ _), hid (by simp)⟩
    case round =>
      obtain ⟨t, ht, rfl, hf, hok⟩ := hrel
      by_cases hlt : t < n
      · have t1 : (t : Int) < (n : Int) := by omega
        obtain ⟨y, hy⟩ : ∃ y, es[t]? = some y := ⟨_, List.getElem?_eq_getElem (by rw [HN.out]; exact hlt)⟩
        obtain ⟨g, o, rfl, y0, y1, y2⟩ := rvE_at (HR.out wr hf.out) hy
        obtain ⟨bx, hbx⟩ : ∃ q, wr.heap.size = q := ⟨_, rfl⟩
        obtain ⟨w5, hw5⟩ : ∃ q, wr.alloc (.cells #[.bool y.f, .int .i64 y.s.a, .int .i64 y.s.m] 41) = q := ⟨_, rfl⟩
        have h5 : Frm [] wr w5 := by rw [← hw5]; exact (Frm.refl _ _).alloc _
        obtain ⟨x0, x1, x2⟩ := sq_cells (W := w5) (y := y) (by rw [← hw5]; exact heap_alloc_to _ _ hbx)
        have HY := hid hy
        have HF5 := hid (hf.out.trans h5 (by simp))
        have HM := hid (mayE_any y.s (HIN.out y (List.mem_of_getElem? hy)) w5)
        have HW5 := hid hw5
        have HBX := hid hbx
        clear hw5 hbx h5 hy
        go_upto_region 6 with fail
        rw [HBX.out, HW5.out]
        clear HW5 HBX
        go_wp2_with fail
        refine HM.out.mono ?_
        rintro e w6 ⟨rfl, hf6⟩
        have HF6 := hid (HF5.out.trans hf6 (by simp))
        clear hf6 y0 y1 y2 x0 x1 x2 HM
        by_cases hm : May9 y.s
        · have hd : decide (May9 y.s) = true := by simp [hm]
          have HOK : Hid (∀ z ∈ es.take (t + 1), May9 z.s) := hid (fun z hz => by
            rw [List.take_add_one, HY.out, Option.toList_some] at hz
            rcases List.mem_append.1 hz with h | h
            · exact hok.out z h
            · simp at h; subst h; exact hm)
          clear hm
          rw [hd]
          go_wp2_with fail
          go_roundw
          case rel => exact ⟨t + 1, by omega, by go_num, HF6, HOK⟩
          case measure => simp [intOf]; omega
        · have hd : decide (May9 y.s) = false := by simp [hm]
          have HE : Hid (100 = chkE es) := hid (by
            unfold chkE
            rw [if_neg (by rw [HN.out]; exact hbig), if_neg (fun h => hm (h y (List.mem_of_getElem? HY.out)))])
          clear hm
          rw [hd]
          go_wp2_with fail
          first | go_returns | skip
          exact HP.out _ _ HE.out HF6.out
      · obtain rfl : n = t := by omega
        have HE : Hid (0 = chkE es) := hid (by
          symm
          refine chkE_ok.2 ⟨by rw [HN.out]; omega, fun y hy => hok.out y ?_⟩
          rw [List.take_of_length_le (by rw [HN.out]; exact Nat.le_refl _)]
          exact hy)
        go_wp2_with fail
        first | go_returns | skip
        exact HP.out _ _ HE.out hf.out
/-- What an encoding answers: the error, or bytes of its own. -/
def EncA (w : World) (zs : List Int) (err : Int) (e : Ending) (w' : World) : Prop :=
  (err ≠ 0 ∧ e = .returned (.tuple #[.slice none 0 0, .int .i64 err]) ∧ Frm [] w w') ∨
  (err = 0 ∧ ∃ g, e = .returned (.tuple #[.slice (some ⟨g, 0, none⟩) zs.length zs.length, .int .i64 0]) ∧ w'.heap[g]? = some (.cells (bv zs).toArray 5 (0, 0)) ∧ Frm [] w w' ∧ w.heap.size ≤ g)
set_option maxHeartbeats 6400000 in
theorem encE_any (p : Option Addr) (n c : Nat) (es : List Sq) (w : World) (hr : Rv w p (rowE es)) (hn : es.length = n) (hin : InE es) (hc : n ≤ 9223372036854775807) :
    Calls Try.prog 13 #[.slice p n c] w (EncA w (spB es) (chkE es)) := by
  have HR := hid (fun W (hf : Frm [] w W) => hr.kept hf (by simp))
  have HN := hid hn
  have HIN := hid hin
  have HCK := hid (chkE_any p n c es w hr hn hin hc)
  obtain ⟨C, hC⟩ : ∃ C, chkE es = C := ⟨_, rfl⟩
  rw [hC] at HCK ⊢
  have HC := hid hC
  clear hr hn hin hC
  go_enter Try.func13, Try.ntmps13
  go_wp2_with fail
  refine HCK.out.mono ?_
  rintro e w1 ⟨rfl, hf1⟩
  have HF1 := hid hf1
  clear hf1 HCK
  by_cases hC0 : C = 0
  · subst hC0
    obtain ⟨hbig, hmay⟩ := chkE_ok.1 HC.out
    rw [HN.out] at hbig
    have HMAY := hid hmay
    have hw0 : IntKind.u64.wrap (n : Int) = (n : Int) := IntWalk.u64_in _ ⟨by omega, by omega⟩
    clear hmay
    go_wp2_with fail
    refine (newWriter_any 53250 w1).mono ?_
    rintro e w2 ⟨rfl, hw2, hf2, _⟩
    have HW2 : Hid (FreshW w w2 w1.heap.size 53250 ([], 0) []) := hid (FreshW.born hw2 (HF1.out.trans hf2 (by simp)) HF1.out.size)
    obtain ⟨b, hb⟩ : ∃ b, w1.heap.size = b := ⟨_, rfl⟩
    rw [hb] at HW2 ⊢
    clear hw2 hf2 hb HF1
    go_wp2_with fail
    refine (num10_fit w w2 b 53250 [] [] HW2.out (by omega) n 2 (by omega) (by omega) (by omega) (by omega) (by simp)).mono ?_
    rintro e w3 ⟨rfl, hw3, _⟩
    have HW3 : Hid (FreshW w w3 b 53250 (le (n : Int) 2 ++ entsB (es.take 0), 0) []) := hid (by simpa [entsB] using hw3)
    clear hw3 HW2
    go_wp2_with fail
    go_loopw [22] (fun i wr => ∃ t : Nat, t ≤ n ∧ i = .int .i64 (t : Int) ∧ Hid (FreshW w wr b 53250 (le (n : Int) 2 ++ entsB (es.take t), 0) [])) (fun i _ => n - (intOf i).toNat)
    case atStart => exact ⟨0, Nat.zero_le _, rfl, HW3⟩
    case round =>
      clear HW3
      obtain ⟨t, ht, rfl, hw⟩ := hrel
      have hlen : ((le (n : Int) 2 ++ entsB (es.take t)).length : Int) = 2 + 13 * t := by
        rw [List.length_append, le_length, entsB_len, List.length_take, HN.out, Nat.min_eq_left ht]
        omega
      by_cases hlt : t < n
      · have t1 : (t : Int) < (n : Int) := by omega
        obtain ⟨y, hy⟩ : ∃ y, es[t]? = some y := ⟨_, List.getElem?_eq_getElem (by rw [HN.out]; exact hlt)⟩
        obtain ⟨g, o, rfl, y0, y1, y2⟩ := rvE_at (HR.out wr hw.out.frm) hy
        obtain ⟨m1, m2, m3, m4⟩ := HMAY.out y (List.mem_of_getElem? hy)
        have hwa : IntKind.u64.wrap y.s.a = y.s.a := IntWalk.u64_in _ ⟨by omega, by omega⟩
        have hwm : IntKind.u64.wrap y.s.m = y.s.m := IntWalk.u64_in _ ⟨by omega, by omega⟩
        have HEN := hid (entsB_take hy)
        obtain ⟨bx, hbx⟩ : ∃ q, wr.heap.size = q := ⟨_, rfl⟩
        obtain ⟨w5, hw5⟩ : ∃ q, wr.alloc (.cells #[.bool y.f, .int .i64 y.s.a, .int .i64 y.s.m] 41) = q := ⟨_, rfl⟩
        have hal := hw.out.alloc10 (.cells #[.bool y.f, .int .i64 y.s.a, .int .i64 y.s.m] 41)
        rw [hbx, hw5] at hal
        have HX : Hid (w5.heap[bx]? = some (.cells #[.bool y.f, .int .i64 y.s.a, .int .i64 y.s.m] 41 (0, 0))) := hid (by rw [← hw5]; exact heap_alloc_to _ _ hbx)
        obtain ⟨x0, x1, x2⟩ := sq_cells HX.out
        have HL := hid hal
        have HLEN := hid hlen
        have HNUM := hid (fun (v : Int) (k : Nat) (zs : List Int) (W : World) (hW : FreshW w W b 53250 (zs, 0) [bx]) h1 h2 h3 h4 h5 => num10_fit w W b 53250 zs [bx] hW (by omega) v k h1 h2 h3 h4 h5)
        have HW5 := hid hw5
        have HBX := hid hbx
        clear hw5 hbx hal hy hlen hw
        go_upto_region 9 with fail
        rw [HBX.out, HW5.out]
        clear HW5 HBX y0 y1 y2
        obtain ⟨fv, hfv⟩ : ∃ v : Int, (if y.f then 1 else 0) = v := ⟨_, rfl⟩
        have HFV := hid hfv
        have HFB : Hid (0 ≤ fv ∧ fv < 256) := hid (by rw [← hfv]; split <;> omega)
        go_upto_if 27 with fail
        go_cut [8] (fun s wx => s = .int .u64 fv ∧ wx = w5)
        case first =>
          cases hyf : y.f with
          | true =>
            rw [hyf] at hfv x0
            simp at hfv
            subst hfv
            go_wp2_with fail
            go_meet
            case rel => exact ⟨rfl, rfl⟩
          | false =>
            rw [hyf] at hfv x0
            simp at hfv
            subst hfv
            go_wp2_with fail
            go_meet
            case rel => exact ⟨rfl, rfl⟩
        obtain ⟨rfl, hwx⟩ := hcut
        subst hwx
        clear hfv
        go_wp2_with fail
        refine (HNUM.out fv 1 _ _ HL.out (by exact HFB.out.1) (by omega) (by omega) (by exact HFB.out.2) (by have := HLEN.out; omega)).mono ?_
        rintro e w6 ⟨rfl, hw6, hk6⟩
        have HW6 := hid hw6
        obtain ⟨z0, z1, z2⟩ := sq_cells ((hk6 bx (by simp)).trans HX.out)
        have HK6 := hid hk6
        clear hw6 hk6 x0 x1 x2 HL
        go_wp2_with fail
        refine (HNUM.out y.s.a 6 _ _ HW6.out (by omega) (by omega) (by omega) (by omega) (by rw [List.length_append, le_length]; have := HLEN.out; omega)).mono ?_
        rintro e w7 ⟨rfl, hw7, hk7⟩
        have HW7 := hid hw7
        obtain ⟨x0, x1, x2⟩ := sq_cells ((hk7 bx (by simp)).trans ((HK6.out bx (by simp)).trans HX.out))
        clear hw7 hk7 z0 z1 z2 HW6
        go_wp2_with fail
        refine (HNUM.out y.s.m 6 _ _ HW7.out (by omega) (by omega) (by omega) (by omega) (by rw [List.length_append, List.length_append, le_length, le_length]; have := HLEN.out; omega)).mono ?_
        rintro e w8 ⟨rfl, hw8, _⟩
        have HW8 : Hid (FreshW w w8 b 53250 (le (n : Int) 2 ++ entsB (es.take (t + 1)), 0) []) := hid (by
          have h := hw8.less10 (B := []) (by simp)
          rw [HEN.out]
          unfold entB
          rw [HFV.out]
          simpa only [List.append_assoc] using h)
        clear hw8 HW7 x0 x1 x2
        go_wp2_with fail
        go_roundw
        case rel => exact ⟨t + 1, by omega, by go_num, HW8⟩
        case measure => simp [intOf]; omega
      · obtain rfl : n = t := by omega
        have HZ : Hid (le (n : Int) 2 ++ entsB (es.take n) = spB es) := hid (by
          unfold spB
          rw [HN.out, List.take_of_length_le (by rw [HN.out]; exact Nat.le_refl _)])
        rw [HZ.out] at hw hlen
        obtain ⟨fp, g1, g2, g3, _⟩ := hw.out
        have HD := hid (doneW_ok b fp 53250 (spB es) wr g1 (by omega) (by omega))
        have HSZ := hid g2
        clear hw hlen g1 g2 g3 HZ
        go_wp2_with fail
        refine HD.out.mono ?_
        rintro e w5 ⟨g, rfl, h5, hf5, hg5⟩
        have HE : Hid (EncA w (spB es) 0 (.returned (.tuple #[.slice (some ⟨g, 0, none⟩) (spB es).length (spB es).length, .int .i64 0])) w5) := hid (Or.inr ⟨rfl, g, rfl, h5, HSZ.out.trans hf5 (by simp), by have := HSZ.out.size; omega⟩)
        clear h5 hf5 hg5 HD HSZ
        go_wp2_with fail
        first | go_returns | skip
        exact HE.out
  · have hb : (C != 0) = true := by simpa using hC0
    have HE : Hid (EncA w (spB es) C (.returned (.tuple #[.slice none 0 0, .int .i64 C])) w1) := hid (Or.inl ⟨hC0, rfl, HF1.out⟩)
    go_wp2_with fail
    first | go_returns | skip
    exact HE.out
end Go.Proofs.Ytkbppkimpefilaa
