/- bytes.Join without a separator, bytes.Equal; tree.Cost. tree.Pack. -/
import Derived.Test.YtkolbijhekbelaaQai
import Derived.Lib.MakeNoZero
import Derived.Laws.Externs
import Derived.Test.YtkolbijhekbelaaQad
namespace Go.Proofs.Ytkolbijhekbelaa
section
open Go.RowKit Go.Lib
set_option maxRecDepth 100000

theorem bv_len (zs : List Int) : (bv zs).length = zs.length := by simp [bv]
theorem bv_app (a b : List Int) : bv (a ++ b) = bv a ++ bv b := by simp [bv]
def flat (ls : List Bk) : List Int := (ls.map Bk.bs).flatten
theorem flat_step {ls : List Bk} {i : Nat} {x : Bk} (h : ls[i]? = some x) : flat (ls.take (i + 1)) = flat (ls.take i) ++ x.bs := by
  unfold flat
  rw [List.take_add_one, h]
  simp
theorem flat_le (ls : List Bk) (i : Nat) : (flat (ls.take i)).length ≤ (flat ls).length := by
  have h : flat ls = flat (ls.take i) ++ flat (ls.drop i) := by
    unfold flat
    rw [← List.flatten_append, ← List.map_append, List.take_append_drop]
  rw [h, List.length_append]; omega
def JoinA (w : World) (ls : List Bk) (e : Ending) (w' : World) : Prop := ∃ x : Bk, e = .returned x.v ∧ x.bs = flat ls ∧ BkOk w' x ∧ Frm [] w w' ∧ ∀ k ∈ blk x.p, w.heap.size ≤ k
set_option maxHeartbeats 12800000 in
theorem join_any (q : Option Addr) (m cq : Nat) (ls : List Bk) (w : World) (h : OwnK w q m cq ls) (hm : 1 ≤ m) (hmc : m ≤ cq ∧ cq ≤ 9223372036854775807) (hb : (flat ls).length ≤ 65536) (hne : ∀ x ∈ ls, x.bs ≠ []) :
    Calls Try.prog 33 #[.slice q m cq, .slice none 0 0] w (JoinA w ls) := by
  obtain ⟨PO, hPO⟩ : ∃ PO : Ending → World → Prop, JoinA w ls = PO := ⟨_, rfl⟩
  rw [hPO]
  have HP : Hid (∀ (p : Option Addr) (n c : Nat) (bs : List Int) w', bs.length = n → bs = flat ls → BkOk w' ⟨p, c, bs⟩ → Frm [] w w' → (∀ k ∈ blk p, w.heap.size ≤ k) → PO (.returned (.slice p n c)) w') := hid (fun p n c bs w' h0 h1 h2 h3 h4 => by subst h0; rw [← hPO]; exact ⟨⟨p, c, bs⟩, rfl, h1, h2, h3, h4⟩)
  have H := hid h
  have HNE := hid hne
  have HMM := hid hmc
  obtain ⟨N, hN⟩ : ∃ q, (flat ls).length = q := ⟨_, rfl⟩
  have HN := hid hN
  rw [hN] at hb
  have hln := h.ln
  have HLN := hid hln
  obtain ⟨x0, hx0⟩ : ∃ x, ls[0]? = some x := ⟨_, List.getElem?_eq_getElem (by rw [hln]; omega)⟩
  have HX0 := hid hx0
  obtain ⟨g, cur, hq, _, hc0⟩ := h.at hx0
  subst hq
  have hx0m := List.mem_of_getElem? hx0
  obtain ⟨k0, hk0⟩ : ∃ q, x0.bs.length = q := ⟨_, rfl⟩
  have HK0 := hid hk0
  rw [hk0] at hc0
  have hk0N : k0 ≤ N := by
    have h1 := flat_step hx0
    have h2 := flat_le ls (0 + 1)
    rw [h1, List.length_append] at h2
    omega
  have HRD0 := hid (h.it x0 hx0m).1
  have HM := hid hm
  have hmb : m ≤ 9223372036854775807 := by have := hmc; omega
  clear h hne hmc hN hln hx0 hx0m hk0 hPO
  go_enter Try.func33, Try.ntmps33
  have hm0 : ((m : Int) == 0) = false := by simp; omega
  by_cases h1 : m = 1
  · subst h1
    have HFE : Hid (flat ls = x0.bs) := hid (by
      have h2 := flat_step HX0.out
      rw [List.take_of_length_le (by rw [HLN.out]; omega)] at h2
      rw [h2]; rfl)
    go_wp2_with (at_builtin; refine wpList_appB rfl _ _ 22 rfl 5 Try.underlying22 infoU8 none 0 0 [] rfl rfl (Own.nil _ _) x0.p k0 x0.c x0.bs rfl HK0.out.symm (fun h0 _ => absurd h0 (HNE.out x0 (List.mem_of_getElem? HX0.out))) HRD0.out.rd (by simp only [List.length_nil]; rw [HK0.out]; omega) ?_)
    intro xs p2 c2 w1 hxs ho1 hf1 hb1
    have hxe : xs = x0.bs := by simpa using hxs.out
    subst hxe
    have HF1 : Hid (Frm [] w w1) := hid (by have := hf1.out; simpa [blk] using this)
    have HB1 : Hid (∀ k ∈ blk p2, w.heap.size ≤ k) := hid (fun k hk => by have := hb1.out k hk; simpa [blk] using this)
    have HO1 := hid ho1.out
    clear hxs ho1 hf1 hb1
    go_wp2_with fail
    first | go_returns | skip
    exact HP.out p2 _ c2 _ _ rfl HFE.out.symm (BkOk.of_own (x := ⟨p2, c2, x0.bs⟩) HO1.out) HF1.out HB1.out
  · have hm1 : ((m : Int) == 1) = false := by simp; omega
    have hm2 : 2 ≤ m := by have := HM.out; omega
    go_wp2_with fail
    go_loopw [44, 5] (fun i s5 wr => ∃ (t : Nat) (f : Nat), t ≤ m ∧ i = .int .i64 (t : Int) ∧ s5 = .int .i64 (f : Int) ∧ f ≤ N ∧ Hid (wr = w ∧ f = (flat (ls.take t)).length)) (fun i _ _ => m - (intOf i).toNat)
    case atStart => exact ⟨0, 0, Nat.zero_le _, rfl, rfl, Nat.zero_le _, hid ⟨rfl, rfl⟩⟩
    case round =>
      obtain ⟨t, f, ht, rfl, rfl, hfN, hin⟩ := hrel
      have hwr := hin.out.1
      have HFF := hid hin.out.2
      subst hwr
      clear hin
      by_cases hlt : t < m
      · have t1 : (t : Int) < (m : Int) := by omega
        obtain ⟨x, hx⟩ : ∃ x, ls[t]? = some x := ⟨_, List.getElem?_eq_getElem (by rw [HLN.out]; exact hlt)⟩
        obtain ⟨g', _, hg', _, hct⟩ := H.out.at hx
        obtain rfl : g = g' := by simpa using hg'
        have HST := hid (flat_step hx)
        obtain ⟨kx, hkx⟩ : ∃ q, x.bs.length = q := ⟨_, rfl⟩
        rw [hkx] at hct
        have hfx : f + kx ≤ N := by
          have h2 := flat_le ls (t + 1)
          rw [HST.out, List.length_append, hkx, ← HFF.out, HN.out] at h2
          exact h2
        have HF2 : Hid (f + kx = (flat (ls.take (t + 1))).length) := hid (by rw [HST.out, List.length_append, hkx, ← HFF.out])
        clear hx hkx hg'
        go_wp2_with fail
        go_roundw
        case rel => exact ⟨t + 1, f + kx, by omega, by go_num, by go_num, hfx, hid ⟨by first | rfl | trivial, HF2.out⟩⟩
        case measure => first | (simp [intOf]; done) | (simp [intOf]; omega)
      · obtain rfl : t = m := by omega
        have hfe : f = N := by rw [HFF.out, List.take_of_length_le (by rw [HLN.out]; exact Nat.le_refl _), HN.out]
        subst hfe
        obtain ⟨cs, hrunM, hle, _⟩ := Lib.run_makeNoZero (P := Try.prog) wr #[3] 22 5 Try.underlying22 f (by omega)
        have hcall : (callFunc 48 #[.int .i64 (f : Int)]).run Try.prog wr = .ok (.value (.slice (some ⟨wr.heap.size, 0, none⟩) f cs.size)) ((wr.alloc (.cells cs 5)).drewN 2) := by
          rw [run_callFunc_extern Try.func48 (by kernel_rfl) (by kernel_rfl) (by kernel_rfl) (e := Extern.BytealgMakeNoZero.makeNoZero #[3] #[22]) (by kernel_rfl), hrunM]
          rfl
        clear hrunM
        have i1 : (f : Int) ≤ (cs.size : Int) := by omega
        go_upto_region 18 with fail
        obtain ⟨W1, hW1⟩ : ∃ q, (wr.alloc (.cells cs 5)).drewN 2 = q := ⟨_, rfl⟩
        have hfA : Frm [] wr W1 := by rw [← hW1]; exact ((Frm.refl [] wr).alloc _).drewN 2
        have hbg : W1.heap[wr.heap.size]? = some (.cells cs.toList.toArray 5 (0, 0)) := by rw [← hW1]; exact heap_alloc_to _ _ rfl
        have q0 : W1.cell? ⟨g, 0, none⟩ = some (.slice x0.p k0 x0.c) := (hfA.cell (World.block_lt_of_cell? wr _ hc0) (by simp)).trans hc0
        obtain ⟨gb, hgb⟩ : ∃ q, wr.heap.size = q := ⟨_, rfl⟩
        rw [hgb] at hbg ⊢
        have HGB := hid hgb
        have HFA := hid hfA
        have HBG := hid hbg
        have HC := hid hle
        have HRV0 : Hid (Rv W1 x0.p (bv x0.bs)) := hid ((HRD0.out.rd.kept hfA (by simp)).rv)
        have hdn0 : Hid (0 + f * 1 ≤ cs.toList.length) := hid (by rw [Array.length_toList]; omega)
        have hmn0 : Hid (k0 = min k0 f) := hid (by omega)
        have hln0 : Hid ((bv x0.bs).length = k0 * 1) := hid (by rw [bv_len, HK0.out]; omega)
        rw [hW1]
        clear hW1 hfA hbg hgb hcall hc0 i1
        obtain ⟨w2, hrun2, hg2', hf2'⟩ := run_copyG (P := Try.prog) (w := W1) Try.underlying22 infoU8 3 (by decide) (some ⟨gb, 0, none⟩) f f gb 0 cs.toList 5 HBG.out (fun _ => rfl) hdn0.out x0.p k0 x0.c k0 (bv x0.bs) hmn0.out hln0.out HRV0.out bv_one
        have hg2 := hid hg2'
        have hf2 := hid hf2'
        clear hg2' hf2'
        go_upto_region 19 with fail
        have HB2 : Hid (∃ D : List Value, w2.heap[gb]? = some (.cells (bv (flat (ls.take 1)) ++ D).toArray 5 (0, 0)) ∧ f ≤ (bv (flat (ls.take 1)) ++ D).length) := hid (by
          refine ⟨cs.toList.drop k0, ?_, ?_⟩
          · have h2 := hg2.out
            have h3 := flat_step HX0.out
            rw [h3]
            simpa [flat] using h2
          · have h3 := flat_step HX0.out
            have := HC.out
            have hk := HK0.out
            rw [h3]
            simp [flat, bv_len, hk]
            omega)
        have HF2 : Hid (Frm [gb] W1 w2) := hf2
        clear hrun2
        have hk1 : k0 = (flat (ls.take 1)).length := by
          have h3 := flat_step HX0.out
          rw [h3]
          simp [flat, HK0.out]
        have HK1 := hid hk1
        clear hg2 hf2 hk1 q0
        have hsl : ∀ W : World, (Instr.slice 25 (.slice (some ⟨g, 0, none⟩) t cq) (some (.int .i64 1)) none none).run Try.prog W = .ok (.slice (partAt (some ⟨g, 0, none⟩) cq 1 1) (t - 1) (cq - 1)) W := fun W => sl_l (P := Try.prog) Try.underlying25 infoK (some ⟨g, 0, none⟩) t cq 1 (by omega) W
        have hpa : partAt (some ⟨g, 0, none⟩) cq 1 1 = some ⟨g, 1, none⟩ := by
          unfold partAt
          rw [if_neg (by have := HMM.out; omega)]
          simp [Addr.add]
        rw [hpa] at hsl
        have hnsl : t - 1 ≤ 9223372036854775807 := by omega
        clear hpa
        go_wp2_with fail
        obtain ⟨wA, rfl⟩ : ∃ z, z = wr := ⟨_, rfl⟩
        go_loopw [72, 9, 11] (fun i s9 s11 wr' => ∃ (j b : Nat), j ≤ t - 1 ∧ i = .int .i64 (j : Int) ∧ s9 = .int .i64 (b : Int) ∧ b ≤ f ∧ Hid (b = (flat (ls.take (j + 1))).length ∧ Frm [gb] W1 wr' ∧ ∃ D : List Value, wr'.heap[gb]? = some (.cells (bv (flat (ls.take (j + 1))) ++ D).toArray 5 (0, 0)) ∧ f ≤ (bv (flat (ls.take (j + 1))) ++ D).length)) (fun i _ _ _ => (t - 1) - (intOf i).toNat)
        case atStart => exact ⟨0, k0, Nat.zero_le _, rfl, rfl, hk0N, hid ⟨HK1.out, HF2.out, HB2.out⟩⟩
        case round =>
          obtain ⟨j, b, hj, rfl, rfl, hbf, hin⟩ := hrel
          by_cases hlt3 : j < t - 1
          · have t1 : (j : Int) < ((t - 1 : Nat) : Int) := by omega
            obtain ⟨x, hx⟩ : ∃ x, ls[j + 1]? = some x := ⟨_, List.getElem?_eq_getElem (by rw [HLN.out]; omega)⟩
            obtain ⟨g', _, hg', _, hct⟩ := H.out.at hx
            obtain rfl : g = g' := by simpa using hg'
            have hxm := List.mem_of_getElem? hx
            have HST := hid (flat_step hx)
            obtain ⟨kx, hkx⟩ : ∃ q, x.bs.length = q := ⟨_, rfl⟩
            rw [hkx] at hct
            have hbx : b + kx ≤ f := by
              have h2 := flat_le ls (j + 1 + 1)
              rw [HST.out, List.length_append, hkx, ← hin.out.1, HN.out] at h2
              exact h2
            have hFr : Frm [] wA wr := HFA.out.trans hin.out.2.1 (fun i hi hl => by rw [List.mem_singleton] at hi; have := HGB.out; omega)
            have q1 : wr.cell? ⟨g, 1 + j, none⟩ = some (.slice x.p kx x.c) := by
              rw [show 1 + j = j + 1 by omega]
              exact (hFr.cell (World.block_lt_of_cell? wA _ hct) (by simp)).trans hct
            have HRVX : Hid (Rv wr x.p (bv x.bs)) := hid (((H.out.it x hxm).1.rd.kept hFr (by simp)).rv)
            obtain ⟨pp, hpp⟩ : ∃ z, partAt (some ⟨gb, 0, none⟩) f b 1 = z := ⟨_, rfl⟩
            have hppe : Hid (0 < f - b → pp = some ⟨gb, b, none⟩) := hid (fun h0 => by
              rw [← hpp]
              unfold partAt
              rw [if_neg (by omega)]
              simp [Addr.add]
              omega)
            have hslB := fun W => sl_l (P := Try.prog) Try.underlying22 infoU8 (some ⟨gb, 0, none⟩) f f b hbf W
            rw [hpp] at hslB
            have hcn : (Builtin.copy_ #[22, 22] 3 #[.slice pp (f - b) (f - b), .slice none 0 0]).run Try.prog wr = .ok (.int .i64 0) wr := run_copy_none (P := Try.prog) wr _ _ _ _ pp none (f - b) (f - b) 0 0 Try.underlying22 (by kernel_rfl) (Nat.zero_min _)
            obtain ⟨hbe, hfb, D, hgD, hfD⟩ := hin.out
            have hblen : (bv (flat (ls.take (j + 1)))).length = b := by rw [bv_len]; exact hbe.symm
            obtain ⟨w5, hrun5, hg5, hf5⟩ := run_copyG (P := Try.prog) (w := wr) Try.underlying22 infoU8 3 (by decide) pp (f - b) (f - b) gb b _ 5 hgD hppe.out (by omega) x.p kx x.c kx (bv x.bs) (by omega) (by rw [bv_len, hkx]; omega) HRVX.out bv_one
            have HNX : Hid (b + kx = (flat (ls.take (j + 1 + 1))).length ∧ Frm [gb] W1 w5 ∧ ∃ D : List Value, w5.heap[gb]? = some (.cells (bv (flat (ls.take (j + 1 + 1))) ++ D).toArray 5 (0, 0)) ∧ f ≤ (bv (flat (ls.take (j + 1 + 1))) ++ D).length) := hid (by
              refine ⟨by rw [HST.out, List.length_append, hkx, ← hbe], hfb.trans hf5 (fun i hi _ => hi), (bv (flat (ls.take (j + 1))) ++ D).drop (b + kx * 1), ?_, ?_⟩
              · rw [hg5, List.take_append_of_le_length (by omega), List.take_of_length_le (by omega), HST.out, bv_app]
              · rw [HST.out, bv_app, List.length_append, List.length_append, List.length_drop, hblen, bv_len, hkx]
                omega)
            have HB5 := hid hbx
            clear hpp hin hbe hfb hgD hfD hblen hg5 hf5 hx hxm hg' hct hFr hppe HRVX HST
            go_wp2_with fail
            go_roundw
            case rel => exact ⟨j + 1, b + kx, by omega, by go_num, by go_num, hbx, HNX⟩
            case measure => first | (simp [intOf]; done) | (simp [intOf]; omega)
          · obtain rfl : j = t - 1 := by omega
            have hjt : t - 1 + 1 = t := by omega
            have hFr : Frm [] wA wr := HFA.out.trans hin.out.2.1 (fun i hi hl => by rw [List.mem_singleton] at hi; have := HGB.out; omega)
            have HFIN : Hid (BkOk wr ⟨some ⟨gb, 0, none⟩, f, flat ls⟩) := hid (by
              obtain ⟨hbe, hfb, D, hgD, hfD⟩ := hin.out
              rw [hjt, List.take_of_length_le (by rw [HLN.out]; exact Nat.le_refl _)] at hgD
              refine ⟨Or.inr ⟨gb, _, rfl, hgD, ?_⟩, fun k hk => by simp [blk] at hk; subst hk; exact lt_of_heap hgD, Nat.le_of_eq HN.out, by show f ≤ _; omega⟩
              show List.take _ (bv (flat ls) ++ D) = _
              rw [List.take_append_of_le_length (by rw [bv_len]; exact Nat.le_refl _), List.take_of_length_le (by rw [bv_len]; exact Nat.le_refl _)])
            have HFR := hid hFr
            clear hin hFr hjt
            go_wp2_with fail
            first | go_returns | skip
            exact HP.out _ f f (flat ls) _ HN.out rfl HFIN.out HFR.out (fun k hk => by simp [blk] at hk; have := HGB.out; omega)
theorem str_injB {xs ys : List Int} (hx : ∀ z ∈ xs, 0 ≤ z ∧ z < 256) (hy : ∀ z ∈ ys, 0 ≤ z ∧ z < 256) (h : strOfNums xs = strOfNums ys) : xs = ys := by
  have h1 := congrArg (fun s : ByteArray => s.data.toList) h
  simp only [strOfNums_data] at h1
  have key : ∀ zs : List Int, (∀ z ∈ zs, 0 ≤ z ∧ z < 256) → (zs.map fun n => UInt8.ofNat n.toNat).map (fun b => (b.toNat : Int)) = zs := by
    intro zs hz
    rw [List.map_map]
    conv => rhs; rw [← List.map_id zs]
    apply List.map_congr_left
    intro z hm
    have := hz z hm
    simp
    omega
  rw [← key xs hx, ← key ys hy, h1]
theorem toInjB {xs ys : List Int} (h : (strOfNums xs).toList = (strOfNums ys).toList) : strOfNums xs = strOfNums ys := by
  rw [Lib.strOfNums_toList, Lib.strOfNums_toList] at h
  have h2 : (strOfNums xs).data.toList = (strOfNums ys).data.toList := h
  have h3 := Array.toList_inj.1 h2
  cases hs : strOfNums xs
  cases ht : strOfNums ys
  rw [hs, ht] at h3
  simp only at h3
  rw [h3]
theorem str_txB (B : ByteArray) : strOfNums (tx B) = B := by
  cases B with
  | mk d => simp [strOfNums, tx, Function.comp_def]
theorem ba_injB {A B : ByteArray} (h : A.toList = B.toList) : A = B := by
  rw [← str_txB A, ← str_txB B] at h ⊢
  exact toInjB h
theorem str_eqB {xs ys : List Int} (hx : ∀ z ∈ xs, 0 ≤ z ∧ z < 256) (hy : ∀ z ∈ ys, 0 ≤ z ∧ z < 256) : ((strOfNums xs).toList == (strOfNums ys).toList) = decide (xs = ys) := by
  by_cases h : xs = ys
  · subst h; simp
  · rw [decide_eq_false h]
    refine beq_eq_false_iff_ne.2 (fun he => h (str_injB hx hy (ba_injB he)))
set_option maxHeartbeats 1600000 in
theorem equalB_any (p q : Option Addr) (n c m d : Nat) (a b : List Int) (w : World) (ha : Rd w p a) (hb : Rd w q b) (hn : a.length = n) (hm : b.length = m) (hza : ∀ z ∈ a, 0 ≤ z ∧ z < 256) (hzb : ∀ z ∈ b, 0 ≤ z ∧ z < 256) :
    Calls Try.prog 57 #[.slice p n c, .slice q m d] w fun e w' => e = .returned (.bool (decide (a = b))) ∧ w' = w := by
  have h1 := cv_any (P := Try.prog) (w := w) 22 5 9 Try.underlying22 Try.underlying5 Try.underlying9 (n := n) ha c hn
  have h2 := cv_any (P := Try.prog) (w := w) 22 5 9 Try.underlying22 Try.underlying5 Try.underlying9 (n := m) hb d hm
  have h3 := str_eqB hza hzb
  obtain ⟨B, hB⟩ : ∃ q, decide (a = b) = q := ⟨_, rfl⟩
  rw [hB] at h3 ⊢
  clear hB ha hb hza hzb hn hm
  go_enter Try.func57, Try.ntmps57
  go_wp2_with fail
  first | go_returns | skip
  first | exact ⟨rfl, rfl⟩ | (simp [h3]; done) | (refine ⟨?_, rfl⟩; simp [h3])
/-- How many blocks an object may take. -/
def costI (size : Int) : Int := if size ≤ 0 then 0 else (size - 1) / 1024 + 1 + ((size - 1) / 1024 / 16 + 1) + 1
set_option maxHeartbeats 1600000 in
theorem up_any (a b : Int) (w : World) (ha : 1 ≤ a ∧ a ≤ 9223372036854775807) (hb : b = 1024 ∨ b = 16) :
    Calls Try.prog 30 #[.int .i64 a, .int .i64 b] w fun e w' => e = .returned (.int .i64 ((a - 1) / b + 1)) ∧ w' = w := by
  obtain ⟨ha0, ha1⟩ := ha
  rcases hb with rfl | rfl
  · go_enter Try.func30, Try.ntmps30
    go_wp2_with fail
    first | go_returns | skip
    exact ⟨rfl, rfl⟩
  · go_enter Try.func30, Try.ntmps30
    go_wp2_with fail
    first | go_returns | skip
    exact ⟨rfl, rfl⟩
set_option maxHeartbeats 1600000 in
theorem cost_any (size : Int) (w : World) (h : -9223372036854775808 ≤ size ∧ size ≤ 9223372036854775807) :
    Calls Try.prog 15 #[.int .i64 size] w fun e w' => e = .returned (.int .i64 (costI size)) ∧ w' = w := by
  obtain ⟨E, hE⟩ : ∃ q, costI size = q := ⟨_, rfl⟩
  rw [hE]
  have HE := hid hE
  obtain ⟨h0, h1⟩ := h
  clear hE
  by_cases hs : size ≤ 0
  · have HEE : Hid (E = 0) := hid (by rw [← HE.out]; unfold costI; rw [if_pos hs])
    go_enter Try.func15, Try.ntmps15
    go_wp2_with fail
    first | go_returns | skip
    exact ⟨by rw [HEE.out]; rfl, rfl⟩
  · obtain ⟨k, hk⟩ : ∃ k, (size - 1) / 1024 = k := ⟨_, rfl⟩
    have hkb : 0 ≤ k ∧ k ≤ 9007199254740991 := by omega
    obtain ⟨hk0, hk1⟩ := hkb
    have HEE : Hid (E = k + 1 + (k / 16 + 1) + 1) := hid (by rw [← HE.out]; unfold costI; rw [if_neg hs, hk])
    have H1 := hid (up_any size 1024 w ⟨by omega, h1⟩ (Or.inl rfl))
    rw [hk] at H1
    have H2 := hid (up_any (k + 1) 16 w ⟨by omega, by omega⟩ (Or.inr rfl))
    rw [show k + 1 - 1 = k by omega] at H2
    clear hk
    go_enter Try.func15, Try.ntmps15
    go_wp2_with fail
    refine H1.out.mono ?_
    rintro e w' ⟨rfl, rfl⟩
    go_wp2_with fail
    refine H2.out.mono ?_
    rintro e w' ⟨rfl, rfl⟩
    go_wp2_with fail
    first | go_returns | skip
    exact ⟨by rw [HEE.out]; rfl, rfl⟩
end
section
open Go.RowKit Go.Lib
set_option maxRecDepth 100000

def blkOf (x : List P9) : List Int := (x.map ptrB).flatten
def nb (b : List Int) : List Int := if blank b then [] else b
/-- What Pack answers: an error, or blocks. -/
def packE (l : List P9) : Int := if 4096 < l.length then 2 else if ∀ p ∈ l, checkP p = 0 then 0 else 40
def packB (l : List P9) : List (List Int) := (cutL 16 l).map (fun x => nb (blkOf x))
theorem pc_get {α : Type} {n i : Nat} {l : List α} {x : List α} (h : (cutL n l)[i]? = some x) : x = pc n i l ∧ i < np n l.length := by
  unfold cutL at h
  rw [List.getElem?_map] at h
  have hi : i < (List.range (np n l.length)).length := by
    rcases Nat.lt_or_ge i (List.range (np n l.length)).length with h1 | h1
    · exact h1
    · rw [List.getElem?_eq_none h1] at h; cases h
  rw [List.length_range] at hi
  rw [List.getElem?_range hi] at h
  simp at h
  exact ⟨h.symm, hi⟩
theorem np_le {n len i : Nat} (hn : 0 < n) (h : i < np n len) : i * n < len := by
  unfold np at h
  rw [Nat.lt_iff_add_one_le, Nat.le_div_iff_mul_le hn, Nat.add_mul, Nat.one_mul] at h
  omega
theorem cutL_mem {α : Type} {n : Nat} {l x : List α} (hn : 0 < n) (h : x ∈ cutL n l) : x ≠ [] ∧ x.length ≤ n ∧ ∀ y ∈ x, y ∈ l := by
  obtain ⟨i, hi⟩ := List.getElem?_of_mem h
  obtain ⟨rfl, h2⟩ := pc_get hi
  have h3 := np_le hn h2
  refine ⟨fun h0 => ?_, pc_len _ _ _, fun y hy => List.mem_of_mem_drop (List.mem_of_mem_take hy)⟩
  have h4 := congrArg List.length h0
  unfold pc at h4
  rw [List.length_take, List.length_drop] at h4
  simp at h4
  omega
theorem cutL_cover {α : Type} {n : Nat} {l : List α} (hn : 0 < n) {y : α} (h : y ∈ l) : ∃ x ∈ cutL n l, y ∈ x := by
  obtain ⟨j, hj⟩ := List.getElem?_of_mem h
  have hjl := (List.getElem?_eq_some_iff.1 hj).1
  have h1 : j / n * n ≤ j := Nat.div_mul_le_self j n
  have h2 : j < j / n * n + n := by
    have := Nat.lt_div_mul_add hn (a := j)
    omega
  refine ⟨pc n (j / n) l, ?_, ?_⟩
  · unfold cutL
    exact List.mem_map.2 ⟨j / n, List.mem_range.2 (np_lt hn (by omega)), rfl⟩
  · unfold pc
    refine List.mem_of_getElem? (i := j - j / n * n) ?_
    rw [List.getElem?_take, if_pos (by omega), List.getElem?_drop, show j / n * n + (j - j / n * n) = j by omega]
    exact hj
theorem owns_cap {w : World} {T : TypeId} {sz : Nat} {p : Option Addr} {n c : Nat} {xs : List Value} (h : w.ownsRow 0 T sz (.slice p n c) n xs) : n ≤ c ∧ c ≤ maxLen := by
  rcases h.2 with ⟨he, h0⟩ | ⟨g, c', cur, he, _, _, hc, hm, _⟩
  · simp only [Value.slice.injEq] at he
    unfold maxLen; omega
  · simp only [Value.slice.injEq] at he
    obtain ⟨_, _, rfl⟩ := he
    exact ⟨hc, hm⟩
theorem bkNil (w : World) : BkOk w ⟨none, 0, []⟩ := ⟨Or.inl rfl, by simp [blk], by simp⟩
/-- While Pack goes on: t pieces are done. -/
structure PackS (w wr : World) (l : List P9) (t : Nat) (q : Option Addr) (cq : Nat) (ls : List Bk) : Prop where
  fr : Frm [] w wr
  ow : OwnK wr q t cq ls
  bs : ls.map Bk.bs = ((cutL 16 l).take t).map (fun x => nb (blkOf x))
  nw : NewK w.heap.size q ls
  ok : ∀ x ∈ (cutL 16 l).take t, ∀ p ∈ x, checkP p = 0
theorem PackS.k0 {w wr w' : World} {l : List P9} {t : Nat} {q : Option Addr} {cq : Nat} {ls : List Bk} (h : PackS w wr l t q cq ls) (hf : Frm [] wr w') : PackS w w' l t q cq ls :=
  ⟨h.fr.trans hf (by simp), h.ow.k0 hf, h.bs, h.nw, h.ok⟩
theorem PackS.next {w wr wx wa w' : World} {l : List P9} {t : Nat} {q q' : Option Addr} {cq cq' : Nat} {ls : List Bk} {x : Bk} {z : List P9} (h : PackS w wr l t q cq ls) (hz : (cutL 16 l)[t]? = some z ∧ (∀ p ∈ z, checkP p = 0)) (hfx : Frm [] wr wx) (hA : Frm [] wx wa) (hx : BkOk wx x ∧ x.bs = nb (blkOf z) ∧ ∀ k ∈ blk x.p, wr.heap.size ≤ k) (ho : w'.ownsRow 0 22 1 (.slice q' (t + 1) cq') (t + 1) (rowsK ls ++ [x.v])) (hf : Frm (blk q) wa w') (hb : ∀ k ∈ blk q', k ∈ blk q ∨ wa.heap.size ≤ k) :
    PackS w w' l (t + 1) q' cq' (ls ++ [x]) := by
  have hz0 := h.fr.size
  have hz1 := hfx.size
  have hz2 := hA.size
  have hlow := ownsRow_low h.ow.ow
  refine ⟨?_, (h.ow.k0 hfx).app hx.1 (fun k hk hm => by have := hx.2.2 k hk; have := hlow k hm; omega) (fun y hy k hk hm => by have := hx.2.2 k hk; have := (h.ow.it y hy).1.lo k hm; omega) hA ho hf hb, ?_, ⟨fun k hk => ?_, fun y hy k hk => ?_⟩, fun y hy p hp => ?_⟩
  · exact (h.fr.trans (hfx.trans hA (by simp)) (by simp)).trans hf (fun k hk hl => by have := h.nw.1 k hk; omega)
  · rw [List.map_append, h.bs, List.take_add_one, hz.1, List.map_append]
    simp [hx.2.1]
  · rcases hb k hk with h1 | h1
    · exact h.nw.1 k h1
    · omega
  · rcases List.mem_append.1 hy with hy | hy
    · exact h.nw.2 y hy k hk
    · rw [List.mem_singleton] at hy; subst hy
      have := hx.2.2 k hk; omega
  · rw [List.take_add_one, hz.1] at hy
    rcases List.mem_append.1 hy with hy | hy
    · exact h.ok y hy p hp
    · simp at hy; subst hy; exact hz.2 p hp
def PackA (w : World) (l : List P9) (e : Ending) (w' : World) : Prop := Frm [] w w' ∧ ((packE l ≠ 0 ∧ e = .returned (.tuple #[.slice none 0 0, .int .i64 (packE l)])) ∨ (packE l = 0 ∧ ∃ q m cq ls, e = .returned (.tuple #[.slice q m cq, .int .i64 0]) ∧ OwnK w' q m cq ls ∧ ls.map Bk.bs = packB l ∧ NewK w.heap.size q ls))
set_option maxHeartbeats 12800000 in
theorem pack_any (p : Option Addr) (L c : Nat) (l : List P9) (w : World) (hr : Rv w p (rowsP l)) (hL : l.length = L) (hb : L ≤ 4611686018427387904) (hc : L ≤ c ∧ c ≤ 9223372036854775807) (hok : ∀ p ∈ l, P9.ok p) :
    Calls Try.prog 17 #[.slice p L c] w (PackA w l) := by
  obtain ⟨PO, hPO⟩ : ∃ PO : Ending → World → Prop, PackA w l = PO := ⟨_, rfl⟩
  rw [hPO]
  have HP1 : Hid (∀ E w', packE l = E → E ≠ 0 → Frm [] w w' → PO (.returned (.tuple #[.slice none 0 0, .int .i64 E])) w') := hid (fun E w' h1 h2 h3 => by rw [← hPO]; exact ⟨h3, Or.inl ⟨by rw [h1]; exact h2, by rw [h1]⟩⟩)
  have HP2 : Hid (∀ q m cq ls w', packE l = 0 → OwnK w' q m cq ls → ls.map Bk.bs = packB l → NewK w.heap.size q ls → Frm [] w w' → PO (.returned (.tuple #[.slice q m cq, .int .i64 0])) w') := hid (fun q m cq ls w' h1 h2 h3 h4 h5 => by rw [← hPO]; exact ⟨h5, Or.inr ⟨h1, q, m, cq, ls, rfl, h2, h3, h4⟩⟩)
  have HL := hid hL
  have HOK := hid hok
  obtain ⟨hc0, hc1⟩ := hc
  by_cases hbig : 4096 < L
  · have HE : Hid (packE l = 2) := hid (by unfold packE; rw [if_pos (by rw [hL]; exact hbig)])
    clear hr hL hok hPO
    go_enter Try.func17, Try.ntmps17
    go_wp2_with fail
    first | go_returns | skip
    exact HP1.out 2 _ HE.out (by omega) (Frm.refl _ _)
  · have HCU := hid (cutp_any 16 (by omega) p L c l w hr hL (by omega) ⟨hc0, hc1⟩)
    clear hr hL hok hPO
    go_enter Try.func17, Try.ntmps17
    go_wp2_with fail
    refine HCU.out.mono ?_
    rintro e w1 ⟨qp, m, cp, ps, rfl, hpo, hps, hpf, hpn⟩
    have hmb : m ≤ 4096 := by
      rw [← hpo.ln, ← List.length_map (f := Bp.ps), hps, cutL_len]
      unfold np
      have := HL.out
      omega
    have HPO' := hid hpo
    have HPS := hid hps
    have HPF := hid hpf
    have HCL : Hid ((cutL 16 l).length = m) := hid (by rw [← hps, List.length_map, hpo.ln])
    clear hpo hps hpf hpn HCU
    go_wp2_with fail
    go_loopw [19, 4] (fun i s4 wr => ∃ (t : Nat) (q : Option Addr) (cq : Nat) (ls : List Bk), t ≤ m ∧ i = .int .i64 (t : Int) ∧ s4 = .slice q t cq ∧ Hid (PackS w1 wr l t q cq ls)) (fun i _ _ => m - (intOf i).toNat)
    case atStart => exact ⟨0, none, 0, [], Nat.zero_le _, rfl, rfl, hid ⟨Frm.refl _ _, OwnK.nil _, rfl, ⟨by simp [blk], by simp⟩, by simp⟩⟩
    case round =>
      obtain ⟨t, q, cq, ls, ht, rfl, rfl, hin⟩ := hrel
      by_cases hlt : t < m
      · have t1 : (t : Int) < (m : Int) := by omega
        obtain ⟨xp, hxp⟩ : ∃ x, ps[t]? = some x := ⟨_, List.getElem?_eq_getElem (by rw [HPO'.out.ln]; exact hlt)⟩
        have hxm := List.mem_of_getElem? hxp
        have hzc : (cutL 16 l)[t]? = some xp.ps := by rw [← HPS.out, List.getElem?_map, hxp]; rfl
        obtain ⟨xne, xle, xin⟩ := cutL_mem (n := 16) (by omega) (List.mem_of_getElem? hzc)
        obtain ⟨g, rfl, hgc⟩ := HPO'.out.at hxp
        obtain ⟨hxr, _, _⟩ := HPO'.out.it xp hxm
        obtain ⟨k, hk⟩ : ∃ k, xp.ps.length = k := ⟨_, rfl⟩
        rw [hk] at hgc xle
        have hk1 : 1 ≤ k := by rw [← hk]; exact List.length_pos_iff.2 xne
        have q0 : wr.cell? ⟨g, t, none⟩ = some (.slice xp.p k xp.c) := (hin.out.fr.cell (World.block_lt_of_cell? w1 _ hgc) (by simp)).trans hgc
        rcases hxr with h0 | ⟨gx, ox, hxpe, hxc⟩
        · exact absurd (List.eq_nil_of_length_eq_zero (by have := congrArg List.length h0; rw [rowsP_len] at this; simp only [List.length_nil] at this; omega)) xne
        rw [hxpe] at q0
        have HXC : Hid (∀ (i : Nat) (u : Value), (rowsP xp.ps)[i]? = some u → wr.cell? ⟨gx, ox + i, none⟩ = some u) := hid (fun i u hu => (hin.out.fr.cell (World.block_lt_of_cell? w1 _ (hxc i u hu)) (by simp)).trans (hxc i u hu))
        have HK := hid hk
        have HZC := hid hzc
        have HXI := hid xin
        have HST := hid hin.out
        obtain ⟨wo, rfl⟩ : ∃ z, z = wr := ⟨_, rfl⟩
        clear hxp hxm hzc xne hgc hxpe hxc hin hk xin
        go_wp2_with fail
        go_loopw [25, 7] (fun i s7 wr => ∃ (j : Nat) (q2 : Option Addr) (c2 : Nat) (fs : List Bk), j ≤ k ∧ i = .int .i64 (j : Int) ∧ s7 = .slice q2 j c2 ∧ Hid (Frm [] wo wr ∧ OwnK wr q2 j c2 fs ∧ NewK wo.heap.size q2 fs ∧ fs.map Bk.bs = (xp.ps.take j).map ptrB ∧ ∀ p ∈ xp.ps.take j, checkP p = 0)) (fun i _ _ => k - (intOf i).toNat)
        case atStart => exact ⟨0, none, 0, [], Nat.zero_le _, rfl, rfl, hid ⟨Frm.refl _ _, OwnK.nil _, ⟨by simp [blk], by simp⟩, rfl, by simp⟩⟩
        case round =>
          obtain ⟨j, q2, c2, fs, hj, rfl, rfl, hin⟩ := hrel
          by_cases hlt3 : j < k
          · have t2 : (j : Int) < (k : Int) := by omega
            obtain ⟨v, hv⟩ : ∃ v, xp.ps[j]? = some v := ⟨_, List.getElem?_eq_getElem (by rw [HK.out]; exact hlt3)⟩
            have HVJ : Hid (xp.ps.take (j + 1) = xp.ps.take j ++ [v]) := hid (by rw [List.take_add_one, hv]; rfl)
            have hvl := HXI.out v (List.mem_of_getElem? hv)
            have hen := encode_any v (HOK.out v hvl)
            obtain ⟨C, hC⟩ : ∃ C, checkP v = C := ⟨_, rfl⟩
            rw [hC] at hen
            have HVC := hid hC
            have HVL := hid hvl
            obtain ⟨zs, hzs⟩ : ∃ z, ptrB v = z := ⟨_, rfl⟩
            rw [hzs] at hen
            have HZS := hid hzs
            have HZL : Hid (zs.length = 64) := hid (by rw [← hzs, ptrB_length])
            have hcell := fun i u hu => (hin.out.1.cell (World.block_lt_of_cell? wo _ (HXC.out (j * 9 + i) u (rowsP_get xp.ps j v hv i u hu))) (by simp)).trans (HXC.out (j * 9 + i) u (rowsP_get xp.ps j v hv i u hu))
            obtain ⟨a0, a1, a2, a3, a4, a5, a6, a7, a8⟩ := v
            unfold P9.arr at hen hcell
            simp only at hen hcell
            have r0 : wr.cell? ⟨gx, ox + j * 9, none⟩ = some (.int .i64 a0) := by have := hcell 0 _ rfl; simpa [Nat.add_assoc] using this
            have r1 : wr.cell? ⟨gx, ox + j * 9 + 1, none⟩ = some (.int .i64 a1) := by have := hcell 1 _ rfl; simpa [Nat.add_assoc] using this
            have r2 : wr.cell? ⟨gx, ox + j * 9 + 2, none⟩ = some (.int .i64 a2) := by have := hcell 2 _ rfl; simpa [Nat.add_assoc] using this
            have r3 : wr.cell? ⟨gx, ox + j * 9 + 3, none⟩ = some (.int .u64 a3) := by have := hcell 3 _ rfl; simpa [Nat.add_assoc] using this
            have r4 : wr.cell? ⟨gx, ox + j * 9 + 4, none⟩ = some (.int .i64 a4) := by have := hcell 4 _ rfl; simpa [Nat.add_assoc] using this
            have r5 : wr.cell? ⟨gx, ox + j * 9 + 5, none⟩ = some (.int .u64 a5) := by have := hcell 5 _ rfl; simpa [Nat.add_assoc] using this
            have r6 : wr.cell? ⟨gx, ox + j * 9 + 6, none⟩ = some (.int .u64 a6) := by have := hcell 6 _ rfl; simpa [Nat.add_assoc] using this
            have r7 : wr.cell? ⟨gx, ox + j * 9 + 7, none⟩ = some (.int .u64 a7) := by have := hcell 7 _ rfl; simpa [Nat.add_assoc] using this
            have r8 : wr.cell? ⟨gx, ox + j * 9 + 8, none⟩ = some (.int .u64 a8) := by have := hcell 8 _ rfl; simpa [Nat.add_assoc] using this
            have HEN := hid (hen (wr.alloc (.cells #[.int .i64 a0, .int .i64 a1, .int .i64 a2, .int .u64 a3, .int .i64 a4, .int .u64 a5, .int .u64 a6, .int .u64 a7, .int .u64 a8] 40)))
            have HIN := hid hin.out
            have HFB := hid ((Frm.refl [] wr).alloc (.cells #[.int .i64 a0, .int .i64 a1, .int .i64 a2, .int .u64 a3, .int .i64 a4, .int .u64 a5, .int .u64 a6, .int .u64 a7, .int .u64 a8] 40))
            clear hcell hen hv hvl hC hzs hin
            go_wp2_with fail
            refine HEN.out.mono ?_
            intro e w5 hea
            rcases hea with ⟨hne, rfl, hf5⟩ | ⟨h0, ge, rfl, hrow, hf5, hge⟩
            · have HE : Hid (packE l = C) := hid (by
                unfold packE
                rw [if_neg (by rw [HL.out]; exact hbig), if_neg (fun hall => hne (by rw [← HVC.out]; exact hall _ HVL.out))]
                rw [← HVC.out]
                rcases checkP_cases (⟨a0, a1, a2, a3, a4, a5, a6, a7, a8⟩ : P9) with ⟨_, h⟩ | ⟨_, _, h⟩ | ⟨_, _, h⟩
                · exact absurd (by rw [← HVC.out]; exact h) hne
                · exact absurd (by rw [← HVC.out]; exact h) hne
                · rw [h])
              have HNE := hid hne
              have hcb : (C == 0) = false := by simpa using hne
              have HFF := hid ((((HPF.out.trans HST.out.fr (by simp)).trans HIN.out.1 (by simp)).trans HFB.out (by simp)).trans hf5 (by simp))
              clear hne hf5 HEN
              go_wp2_with fail
              first | go_returns | skip
              exact HP1.out C _ HE.out HNE.out HFF.out
            · subst h0
              obtain ⟨n64, hn64⟩ : ∃ z, zs.length = z := ⟨_, rfl⟩
              have HN64 := hid hn64
              rw [hn64]
              have HF5 := hid (HFB.out.trans hf5 (by simp))
              have HBK : Hid (BkOk w5 ⟨some ⟨ge, 0, none⟩, n64, zs⟩) := hid ⟨Or.inr ⟨ge, _, rfl, hrow, List.take_of_length_le (by simp [bv_len])⟩, fun i hi => by simp [blk] at hi; subst hi; exact lt_of_heap hrow, by have h1 := HZL.out; have h2 := HN64.out; constructor <;> (simp only; omega)⟩
              have HGE : Hid (wr.heap.size ≤ ge) := hid (by have := HFB.out.size; omega)
              have HOF := hid (HIN.out.2.1.k0 (HFB.out.trans hf5 (by simp)))
              have HA := hid ((Frm.refl [] w5).alloc (.cells #[.slice (some ⟨ge, 0, none⟩) n64 n64] 22))
              have HRV := hid (rv_block (heap_alloc_new w5 (.cells #[.slice (some ⟨ge, 0, none⟩) n64 n64] 22)))
              have HOW := hid (ownsRow_kept HOF.out.ow HA.out (by simp))
              clear hn64 hrow hf5 hge HEN
              go_wp2_with (at_builtin; refine wpList_appV rfl _ _ 25 rfl 22 1 24 _ Try.underlying25 infoK rfl (by decide) q2 j c2 (rowsK fs) rfl HOW.out (some ⟨w5.heap.size, 0, none⟩) 1 1 [.slice (some ⟨ge, 0, none⟩) n64 n64] rfl rfl (by simp) HRV.out (by intro u hu; simp at hu; subst hu; rfl) (by unfold maxLen; omega) (by omega) ?_)
              intro q3 c3 w3 ho3 hf3 hb3
              have HNX : Hid (Frm [] wo w3 ∧ OwnK w3 q3 (j + 1) c3 (fs ++ [⟨some ⟨ge, 0, none⟩, n64, zs⟩]) ∧ NewK wo.heap.size q3 (fs ++ [⟨some ⟨ge, 0, none⟩, n64, zs⟩]) ∧ (fs ++ [(⟨some ⟨ge, 0, none⟩, n64, zs⟩ : Bk)]).map Bk.bs = (xp.ps.take (j + 1)).map ptrB ∧ ∀ p ∈ xp.ps.take (j + 1), checkP p = 0) := hid (by
                obtain ⟨b1, b2, b3, b4, b5⟩ := HIN.out
                have hz := b1.size
                have hz5 := HF5.out.size
                have hzA := HA.out.size
                have hge := HGE.out
                have hlow := ownsRow_low b2.ow
                refine ⟨((b1.trans HF5.out (by simp)).trans HA.out (by simp)).trans hf3.out (fun i hi hl => by have := b3.1 i hi; omega), HOF.out.app (x := ⟨some ⟨ge, 0, none⟩, n64, zs⟩) HBK.out (fun i hi hm => by simp [blk] at hi; have := hlow i hm; omega) (fun y hy i hi hm => by simp [blk] at hi; have := (b2.it y hy).1.lo i hm; omega) HA.out (by have h := ho3.out; rw [← HN64.out] at h ⊢; exact h) hf3.out (fun i hi => (hb3.out i hi).imp (fun h => h) (fun h => by first | exact h | (simp at h ⊢; omega))), ⟨fun i hi => ?_, fun y hy i hi => ?_⟩, ?_, fun y hy => ?_⟩
                · rcases hb3.out i hi with h | h
                  · exact b3.1 i h
                  · first | omega | (simp at h; omega)
                · rcases List.mem_append.1 hy with hy | hy
                  · exact b3.2 y hy i hi
                  · rw [List.mem_singleton] at hy; subst hy; simp [blk] at hi; omega
                · rw [HVJ.out, List.map_append, List.map_append, b4]; simp [HZS.out]
                · rw [HVJ.out] at hy
                  rcases List.mem_append.1 hy with hy | hy
                  · exact b5 y hy
                  · rw [List.mem_singleton] at hy; subst hy; exact HVC.out)
              clear ho3 hf3 hb3 HOW HRV HA
              go_wp2_with fail
              go_roundw
              case rel => exact ⟨j + 1, q3, c3, _, by omega, by go_num, by go_num, HNX⟩
              case measure => first | (simp [intOf]; done) | (simp [intOf]; omega)
          · obtain rfl : j = k := by omega
            have htk : xp.ps.take j = xp.ps := List.take_of_length_le (by rw [HK.out]; exact Nat.le_refl _)
            obtain ⟨b1, b2, b3, b4, b5⟩ := hin.out
            rw [htk] at b4 b5
            have hfl : flat fs = blkOf xp.ps := by unfold flat blkOf; rw [b4]
            have h64 : ∀ x ∈ fs, x.bs.length = 64 := fun x hx => by
              have h1 : x.bs ∈ (xp.ps).map ptrB := by rw [← b4]; exact List.mem_map.2 ⟨x, hx, rfl⟩
              obtain ⟨y, _, hy⟩ := List.mem_map.1 h1
              rw [← hy, ptrB_length]
            have hflen : (flat fs).length ≤ 65536 := by
              have h2 : (flat fs).length = 64 * fs.length := by
                unfold flat
                rw [List.length_flatten, List.map_map]
                have : ∀ l : List Bk, (∀ x ∈ l, x.bs.length = 64) → (l.map (List.length ∘ Bk.bs)).sum = 64 * l.length := fun l => by
                  induction l with
                  | nil => intro _; rfl
                  | cons y l ih => intro hl; rw [List.map_cons, List.sum_cons, ih (fun x hx => hl x (List.mem_cons_of_mem _ hx))]; show y.bs.length + _ = _; rw [hl y List.mem_cons_self, List.length_cons]; omega
                exact this fs h64
              rw [h2, b2.ln]; omega
            have hcap := owns_cap b2.ow
            have HJN := hid (join_any q2 j c2 fs wr b2 hk1 ⟨hcap.1, by have := hcap.2; unfold maxLen at this; omega⟩ hflen (fun x hx h0 => by have := h64 x hx; rw [h0] at this; simp at this))
            have HB1 := hid b1
            have HB5 := hid b5
            have HFL := hid hfl
            have HFLN := hid hflen
            clear b1 b2 b3 b4 b5 hfl h64 hflen hcap hin htk
            go_wp2_with fail
            refine HJN.out.mono ?_
            rintro e w6 ⟨⟨jp, jc, jb⟩, rfl, hjb, hjo, hjf, hjn⟩
            unfold Bk.v
            simp only
            simp only at hjb
            obtain ⟨jn, hjl⟩ : ∃ z, jb.length = z := ⟨_, rfl⟩
            have HJL := hid hjl
            have hjlb : jn ≤ 65536 := by rw [← hjl, hjb]; exact HFLN.out
            rw [hjl]
            have HFX := hid (HB1.out.trans hjf (by simp))
            have HJO := hid hjo
            have HJB : Hid (jb = blkOf xp.ps) := hid (hjb.trans HFL.out)
            have HJW : Hid (∀ i ∈ blk jp, wo.heap.size ≤ i) := hid (fun i hi => by have := hjn i hi; have := HB1.out.size; simp only at *; omega)
            have HPC : Hid ((cutL 16 l)[t]? = some xp.ps ∧ ∀ p ∈ xp.ps, checkP p = 0) := hid ⟨HZC.out, HB5.out⟩
            have HBL := hid (blank_any jp jn jc jb w6 hjo.rd hjl (by omega))
            clear hjb hjo hjf hjn hjl HJN
            go_wp2_with fail
            refine HBL.out.mono ?_
            rintro e w6' ⟨rfl, hww⟩
            subst hww
            by_cases hbk : blank jb = true
            · have HBN : Hid (nb (blkOf xp.ps) = []) := hid (by unfold nb; rw [← HJB.out, if_pos hbk])
              rw [hbk]
              clear hbk HBL
              have HA := hid ((Frm.refl [] w6').alloc (.cells #[.slice none 0 0] 22))
              have HRV := hid (rv_block (heap_alloc_new w6' (.cells #[.slice none 0 0] 22)))
              have HOW := hid (ownsRow_kept (HST.out.ow.k0 HFX.out).ow HA.out (by simp))
              go_wp2_with (at_builtin; refine wpList_appV rfl _ _ 25 rfl 22 1 24 _ Try.underlying25 infoK rfl (by decide) q t cq (rowsK ls) rfl HOW.out (some ⟨w6'.heap.size, 0, none⟩) 1 1 [.slice none 0 0] rfl rfl (by simp) HRV.out (by intro u hu; simp at hu; subst hu; rfl) (by unfold maxLen; omega) (by omega) ?_)
              intro q3 c3 w3 ho3 hf3 hb3
              have HNX : Hid (PackS w1 w3 l (t + 1) q3 c3 (ls ++ [⟨none, 0, []⟩])) := hid (HST.out.next (x := ⟨none, 0, []⟩) HPC.out HFX.out HA.out (⟨bkNil _, HBN.out.symm, by simp [blk]⟩) (by have h := ho3.out; simpa [Bk.v] using h) hf3.out (fun k hk => (hb3.out k hk).imp (fun h => h) (fun h => by first | exact h | (simp at h ⊢; omega))))
              clear ho3 hf3 hb3 HOW HRV HA
              go_wp2_with fail
              go_roundw
              case rel => exact ⟨t + 1, q3, c3, _, by omega, by go_num, by go_num, HNX⟩
              case measure => first | (simp [intOf]; done) | (simp [intOf]; omega)
            · have hbf : blank jb = false := by simpa using hbk
              have HBN : Hid (nb (blkOf xp.ps) = jb) := hid (by unfold nb; rw [← HJB.out, if_neg hbk])
              rw [hbf]
              clear hbk hbf HBL
              have HA := hid ((Frm.refl [] w6').alloc (.cells #[.slice jp jn jc] 22))
              have HRV := hid (rv_block (heap_alloc_new w6' (.cells #[.slice jp jn jc] 22)))
              have HOW := hid (ownsRow_kept (HST.out.ow.k0 HFX.out).ow HA.out (by simp))
              go_wp2_with (at_builtin; refine wpList_appV rfl _ _ 25 rfl 22 1 24 _ Try.underlying25 infoK rfl (by decide) q t cq (rowsK ls) rfl HOW.out (some ⟨w6'.heap.size, 0, none⟩) 1 1 [.slice jp jn jc] rfl rfl (by simp) HRV.out (by intro u hu; simp at hu; subst hu; rfl) (by unfold maxLen; omega) (by omega) ?_)
              intro q3 c3 w3 ho3 hf3 hb3
              have HNX : Hid (PackS w1 w3 l (t + 1) q3 c3 (ls ++ [⟨jp, jc, jb⟩])) := hid (HST.out.next (x := ⟨jp, jc, jb⟩) HPC.out HFX.out HA.out (⟨HJO.out, HBN.out.symm, HJW.out⟩) (by have h := ho3.out; rw [← HJL.out] at h; simpa [Bk.v] using h) hf3.out (fun k hk => (hb3.out k hk).imp (fun h => h) (fun h => by first | exact h | (simp at h ⊢; omega))))
              clear ho3 hf3 hb3 HOW HRV HA
              go_wp2_with fail
              go_roundw
              case rel => exact ⟨t + 1, q3, c3, _, by omega, by go_num, by go_num, HNX⟩
              case measure => first | (simp [intOf]; done) | (simp [intOf]; omega)
      · obtain rfl : t = m := by omega
        have HE : Hid (packE l = 0) := hid (by
          unfold packE
          rw [if_neg (by rw [HL.out]; exact hbig), if_pos (fun y hy => ?_)]
          obtain ⟨x, hx, hyx⟩ := cutL_cover (n := 16) (by omega) hy
          exact hin.out.ok x (by rw [List.take_of_length_le (by rw [HCL.out]; exact Nat.le_refl _)]; exact hx) y hyx)
        have HIN := hid hin.out
        clear hin
        go_wp2_with fail
        first | go_returns | skip
        exact HP2.out q t cq ls _ HE.out HIN.out.ow (by rw [HIN.out.bs, List.take_of_length_le (by rw [HCL.out]; exact Nat.le_refl _)]; rfl) ⟨fun k hk => by have := HIN.out.nw.1 k hk; have := HPF.out.size; omega, fun x hx k hk => by have := HIN.out.nw.2 x hx k hk; have := HPF.out.size; omega⟩ (HPF.out.trans HIN.out.fr (by simp))
end
end Go.Proofs.Ytkolbijhekbelaa
