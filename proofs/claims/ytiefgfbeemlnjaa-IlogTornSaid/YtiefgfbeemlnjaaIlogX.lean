/- Helpers of the statements on regions: written. -/
import Derived.Test.YtiefgfbeemlnjaaIlogU
import Derived.Test.YtiefgfbeemlnjaaIlogT
import Derived.Test.YtiefgfbeemlnjaaRowB
import Derived.BigQuiet
namespace Go.Proofs.Ytiefgfbeemlnjaa
open Go.RowKit
set_option maxRecDepth 100000

/-- A list of one's own, of rows that came in. -/
structure LIn (W0 w : World) (g : Nat) (p : Option Addr) (n c : Nat) (vs : List Value) (bs : List (List Int)) : Prop where
  own : w.ownsRow 0 22 1 (.slice p n c) n vs
  lenB : bs.length = n
  each : ∀ i, i < n → ∃ q m d, vs.getD i nilV = .slice q m d ∧ m = (bs.getD i []).length ∧ Rd W0 q (bs.getD i [])
  newp : ∀ k ∈ blk p, g < k
theorem LIn.nil (W0 w : World) (g : Nat) : LIn W0 w g none 0 0 [] [] :=
  ⟨World.ownsRow_nil w 0 _ 1, rfl, fun i h => absurd h (by omega), by simp [blk]⟩
theorem LIn.kept {S : List Nat} {W0 w w' : World} {g : Nat} {p : Option Addr} {n c : Nat} {vs : List Value} {bs : List (List Int)} (h : LIn W0 w g p n c vs bs) (hf : Frm S w w') (hS : ∀ k ∈ S, k ≤ g) : LIn W0 w' g p n c vs bs :=
  ⟨ownsRow_kept h.own hf (fun k hk hs => by have a := h.newp k hk; have b := hS k hs; omega), h.lenB, h.each, h.newp⟩
theorem LIn.mono {W0 w : World} {g g' : Nat} {p : Option Addr} {n c : Nat} {vs : List Value} {bs : List (List Int)} (h : LIn W0 w g p n c vs bs) (hg : g' ≤ g) : LIn W0 w g' p n c vs bs :=
  ⟨h.own, h.lenB, h.each, fun k hk => by have := h.newp k hk; omega⟩
theorem LIn.snoc {W0 w w2 : World} {g : Nat} {p p2 : Option Addr} {n c c2 : Nat} {vs : List Value} {bs : List (List Int)} {q : Option Addr} {m d : Nat} {z : List Int} (h : LIn W0 w g p n c vs bs) (hg : g < w.heap.size) (hz : z.length = m) (hr : Rd W0 q z)
    (ho : w2.ownsRow 0 22 1 (.slice p2 (n + 1) c2) (n + 1) (vs ++ [.slice q m d])) (hk : ∀ k ∈ blk p2, k ∈ blk p ∨ w.heap.size ≤ k) : LIn W0 w2 g p2 (n + 1) c2 (vs ++ [.slice q m d]) (bs ++ [z]) := by
  have hv : vs.length = n := by have := h.own.1; omega
  refine ⟨ho, by simp [h.lenB], fun i hi => ?_, fun k hk2 => ?_⟩
  · by_cases hlt : i < n
    · rw [getD_snoc_lt (by omega), getD_snoc_lt (by rw [h.lenB]; omega)]
      exact h.each i hlt
    · obtain rfl : i = n := by omega
      have e1 : (vs ++ [Value.slice q m d]).getD i nilV = .slice q m d := by have := getD_snoc_eq (l := vs) (d := nilV) (x := .slice q m d); rwa [hv] at this
      have e2 : (bs ++ [z]).getD i [] = z := by have := getD_snoc_eq (l := bs) (d := []) (x := z); rwa [h.lenB] at this
      rw [e1, e2]
      exact ⟨q, m, d, rfl, hz.symm, hr⟩
  · rcases hk k hk2 with h3 | h3
    · exact h.newp k h3
    · omega
theorem LIn.rd {W0 w : World} {g : Nat} {p : Option Addr} {n c : Nat} {vs : List Value} {bs : List (List Int)} (h : LIn W0 w g p n c vs bs) (hf : Frm [] W0 w) : LRd w p bs := by
  have hv : vs.length = n := by have := h.own.1; omega
  by_cases hn : n = 0
  · exact Or.inl (List.eq_nil_of_length_eq_zero (by rw [h.lenB, hn]))
  · rcases h.own.2 with ⟨_, h0⟩ | ⟨g', c', cur, he, _, hg, _⟩
    · omega
    · simp only [Value.slice.injEq] at he
      obtain ⟨rfl, _, rfl⟩ := he
      refine Or.inr ⟨g', 0, rfl, fun i hi => ?_⟩
      rw [h.lenB] at hi
      obtain ⟨q, m, d, h1, h2, h3⟩ := h.each i hi
      refine ⟨q, m, d, ?_, h2, h3.kept hf (by simp)⟩
      rw [Nat.zero_add, World.ownsRow.cellAt h.own i (by omega)]
      rw [List.getD_eq_getElem?_getD, List.getElem?_eq_getElem (by omega)] at h1
      rw [List.getElem?_eq_getElem (by omega)]
      exact congrArg some h1
theorem LRd.last {w : World} {p : Option Addr} {bs : List (List Int)} {z : List Int} (h : LRd w p (bs ++ [z])) : LRd w p bs := by
  rcases h with h | ⟨g, o, rfl, hc⟩
  · simp at h
  · refine Or.inr ⟨g, o, rfl, fun i hi => ?_⟩
    obtain ⟨q, n, c, h1, h2, h3⟩ := hc i (by simp; omega)
    rw [getD_snoc_lt hi] at h2 h3
    exact ⟨q, n, c, h1, h2, h3⟩
theorem set_row (Z RB zs : List Int) (A k : Nat) (hZ : Z.length = A) (hk : k < RB.length) (hA : A + k < zs.length) : (Z ++ RB.take k ++ zs.drop (A + k)).set (A + k) (RB.getD k 0) = Z ++ RB.take (k + 1) ++ zs.drop (A + (k + 1)) := by
  have hl : (Z ++ RB.take k).length = A + k := by rw [List.length_append, List.length_take, hZ]; omega
  rw [List.set_append_right _ _ (by omega), hl, Nat.sub_self, List.drop_eq_getElem_cons hA, List.set_cons_zero, List.take_add_one, List.getElem?_eq_getElem hk, List.getD_eq_getElem?_getD, List.getElem?_eq_getElem hk]
  simp only [Option.toList_some, Option.getD_some, List.append_assoc, List.cons_append, List.nil_append, Nat.add_assoc]
/-- Either error of an Append. -/
theorem append_err (b : Nat) (base at_ next : Nat) (p : Option Addr) (n c : Nat) (hat : at_ ≤ 22528) (hr : roomB at_ n = false) : ∃ er : Int, (er == 0) = false ∧ (er != 0) = true ∧ ∀ w : World, IsLog w b base at_ next →
    Calls Try.prog 22 #[.pointer (some ⟨b, 0, none⟩), .slice p n c] w fun e w' => e = .returned (.tuple #[.int .i64 0, .slice none 0 0, .int .i64 er]) ∧ Frm [] w w' := by
  by_cases h : 4096 < n
  · exact ⟨2, by decide, by decide, fun w _ => append_long b p n c h w⟩
  · exact ⟨161, by decide, by decide, fun w hL => append_full b base at_ next p n c hat (by omega) hr w hL⟩
/-- What written answers. -/
def PostW (W0 : World) (bn g : Nat) (zs0 : List Int) (w : World) (e : Ending) (w' : World) : Prop :=
  ∃ (p : Option Addr) (n c : Nat) (vs : List Value) (ls : List (List Int)), e = .returned (.tuple #[.slice p n c, .int .i64 (((recsB bn 1 ls.dropLast).length : Nat) : Int), .int .i64 (((recsB bn 1 ls).length : Nat) : Int), .bool true]) ∧ LIn W0 w' g p n c vs ls ∧ (recsB bn 1 ls).length ≤ 22528 ∧ (∀ x ∈ ls, x.length ≤ 4096) ∧ (∀ x ∈ ls, ∀ z ∈ x, 0 ≤ z ∧ z < 256) ∧ w'.heap[g]? = some (.cells (bv (recsB bn 1 ls ++ zs0.drop (recsB bn 1 ls).length)).toArray 5 (0, 0)) ∧ Frm [g] w w'
set_option maxHeartbeats 3200000 in
theorem written_any (W0 : World) (bn g : Nat) (hb1 : bn ≤ 2000) (p1 : Option Addr) (l1 c1 : Nat) (zs0 : List Int) (hz0 : zs0.length = 22528) (hC : CameB W0 p1 l1 c1) (hgW : W0.heap.size ≤ g) (w : World) (hW : Frm [] W0 w) (hg : w.heap[g]? = some (.cells (bv zs0).toArray 5 (0, 0))) :
    Calls Try.prog 26 #[.int .i64 bn, .slice p1 l1 c1, .slice (some ⟨g, 0, none⟩) 22528 22528] w (PostW W0 bn g zs0 w) := by
  have HC := hid hC
  have HZ0 := hid hz0
  have HW := hid hW
  have HG := hid hg
  have hgs := lt_of_heap hg
  have hlb : l1 ≤ 9223372036854775807 := Nat.le_trans hC.1 hC.2.1
  clear hC hz0 hW hg
  go_enter Try.func26, Try.ntmps26
  go_wp2_with fail
  refine (logNew_ok bn (by omega) (by omega) _).mono ?_
  rintro e w1 ⟨b, rfl, hL, hf, hb⟩
  have HL1 : Hid (IsLog w1 b bn (((recsB bn 1 []).length : Nat) : Int) ((1 + ([] : List (List Int)).length : Nat) : Int)) := hid hL
  have HF1 : Hid (Frm [g] w w1) := hid (hf.mono (by simp))
  have HG1 : Hid (w1.heap[g]? = some (.cells (bv (recsB bn 1 [] ++ zs0.drop (recsB bn 1 []).length)).toArray 5 (0, 0))) := hid (by
    have h := hf.heap HG.out (by simp)
    simpa [recsB] using h)
  have hgb : g < b := by omega
  have hwb : w.heap.size ≤ b := hb
  have hbs := hL.cells.1
  clear hL hf hb
  go_wp2_with fail
  go_loopw [12, 13, 14, 15] (fun v fr to i wr => ∃ (t : Nat) (p : Option Addr) (n c : Nat) (vs : List Value) (ls : List (List Int)), t ≤ l1 ∧ i = .int .i64 t ∧ v = .slice p n c ∧ fr = .int .i64 (((recsB bn 1 ls.dropLast).length : Nat) : Int) ∧ to = .int .i64 (((recsB bn 1 ls).length : Nat) : Int) ∧ Hid (LIn W0 wr b p n c vs ls) ∧ Hid ((recsB bn 1 ls).length ≤ 22528) ∧ Hid (∀ x ∈ ls, x.length ≤ 4096) ∧ Hid (∀ x ∈ ls, ∀ z ∈ x, 0 ≤ z ∧ z < 256) ∧ Hid (IsLog wr b bn (((recsB bn 1 ls).length : Nat) : Int) ((1 + ls.length : Nat) : Int)) ∧ Hid (wr.heap[g]? = some (.cells (bv (recsB bn 1 ls ++ zs0.drop (recsB bn 1 ls).length)).toArray 5 (0, 0))) ∧ Hid (Frm [g] w wr)) (fun _ _ _ i _ => l1 - (intOf i).toNat)
  case atStart => exact ⟨0, none, 0, 0, [], [], Nat.zero_le _, rfl, rfl, rfl, rfl, hid (LIn.nil _ _ _), hid (by simp [recsB]), hid (by simp), hid (by simp), HL1, HG1, HF1⟩
  case round =>
    clear HL1 HG1 HF1
    obtain ⟨t, p, n, c, vs, ls, ht, rfl, rfl, rfl, rfl, hl, hA0, hsm, hby, hi, hg, hf⟩ := hrel
    obtain ⟨A, hA⟩ : ∃ A, (recsB bn 1 ls).length = A := ⟨_, rfl⟩
    obtain ⟨B, hB⟩ : ∃ B, 1 + ls.length = B := ⟨_, rfl⟩
    obtain ⟨FR, hFR⟩ : ∃ FR, (recsB bn 1 ls.dropLast).length = FR := ⟨_, rfl⟩
    have HA := hid hA
    have HB := hid hB
    have HFR := hid hFR
    have hA2 := hA0.out
    have hge := recsB_length_ge bn 1 ls
    have hLB := hl.out.lenB
    rw [hA] at hA2 hge
    have hn256 : n ≤ 256 := by omega
    have hB256 : B ≤ 257 := by omega
    rw [hA, hB] at hi
    rw [hA] at hg
    rw [hA, hFR]
    clear hA hB hFR hge hLB
    by_cases hlt : t < l1
    · obtain ⟨gi, oi, rfl, hall⟩ : ∃ g o, p1 = some ⟨g, o, none⟩ ∧ ∀ i, i < l1 → ∃ q n c, W0.cell? ⟨g, o + i, none⟩ = some (.slice q n c) ∧ Came W0 q n c ∧ n ≤ 140737488351232 := by
        rcases HC.out.2.2 with h | h
        · omega
        · exact h
      obtain ⟨q, m, d, hcell, ⟨ns, hn, hrd, hbd, hpc, hnc, hcb⟩, hle⟩ := hall t hlt
      have hgiW := World.block_lt_of_cell? W0 _ hcell
      have HK : Hid (∀ x, Frm [g] w x → x.cell? ⟨gi, oi + t, none⟩ = some (.slice q m d)) := hid (fun x hx => ((HW.out.trans (S := []) hx (fun i hi hlt => by simp at hi; omega)).cell (p := ⟨gi, oi + t, none⟩) hgiW (by simp)).trans hcell)
      have HFW : Hid (∀ x, Frm [g] w x → Frm [] W0 x) := hid (fun x hx => HW.out.trans hx (fun i hi hlt => by simp at hi; omega))
      have HN := hid hn
      have HRD := hid hrd
      have HBD := hid hbd
      have t0 : (0 : Int) ≤ (t : Int) := by omega
      have t1 : (t : Int) < (l1 : Int) := by omega
      have k0 := HK.out wr hf.out
      clear hall hcell hn hrd hbd hpc hcb
      go_wp2_with fail
      refine (at_any b bn A B _ hi.out).mono ?_
      rintro e x1 ⟨rfl, rfl⟩
      go_wp2_with fail
      refine (room_any b bn A B m _ hA2 hi.out).mono ?_
      rintro e x1 ⟨rfl, hf1⟩
      have HI1 := hid (hi.out.kept hf1 (by simp))
      have HF1 := hid (hf.out.trans hf1 (by simp))
      have HG1 := hid (hf1.heap hg.out (by simp))
      have HL1 := hid (hl.out.kept hf1 (by simp))
      have k1 := HK.out x1 HF1.out
      clear hf1 k0
      by_cases hroom : roomB A (m : Int) = true
      · have hr := hroom
        simp only [roomB, Bool.and_eq_true, decide_eq_true_eq, Int.toNat_natCast] at hr
        obtain ⟨⟨_, hr1⟩, hr2⟩ := hr
        have hm4 : m ≤ 4096 := by omega
        have HOK := hid (append_ok b bn A B q ns m d HN.out hA2 (by omega) (by omega) hm4 hroom x1 HI1.out (HRD.out.kept (HFW.out _ HF1.out) (by simp)) hnc)
        rw [hroom]
        have hp := pcs_pos m
        have hp2 := pcs_le m hm4
        obtain ⟨K, hK⟩ : ∃ K, pcs m = K := ⟨_, rfl⟩
        rw [hK] at hp hp2 hr2 HOK
        have HK2 := hid hK
        clear hroom hr1 hK
        go_wp2_with fail
        refine HOK.out.mono ?_
        rintro e x2 ⟨p2, n2, c2, rfl, rfl, ho2, hl2, hf2, hk2⟩
        have HI2 := hid hl2
        have HO2 := hid ho2
        have hrecl : (recB bn B ns).length = K * 88 := by rw [recB_length, HN.out, HK2.out]
        have HF2 := hid (HF1.out.trans hf2 (fun i hi hlt => by simp at hi; omega))
        have HG2 := hid (hf2.heap HG1.out (by simp; omega))
        have hk2b : Hid (∀ k ∈ blk p2, b < k) := hid (fun k hk => Nat.lt_of_lt_of_le (HI1.out.cells.1) (hk2 k hk))
        have HL2 := hid (HL1.out.kept hf2 (by simp))
        obtain ⟨RB, hRB⟩ : ∃ RB, recB bn B ns = RB := ⟨_, rfl⟩
        have HRB := hid hRB
        rw [hRB] at HO2 hrecl
        have HRL := hid hrecl
        obtain ⟨Z, hZ⟩ : ∃ Z, recsB bn 1 ls = Z := ⟨_, rfl⟩
        have HZ := hid hZ
        have HZL : Hid (Z.length = A) := hid (by rw [← hZ]; exact HA.out)
        rw [hZ] at HG2
        have k2 := HK.out x2 HF2.out
        have hmod : ((K : Int) * 88) % 88 = 0 := by omega
        have hmod2 : ((K : Int) * 88).tmod 88 = 0 := by rw [Int.tmod_eq_emod_of_nonneg (by omega)]; exact hmod
        have l1' : ¬ (A : Int) < 0 := by omega
        have l2' : ¬ (22528 : Int) < (A : Int) := by omega
        have l3' : ¬ (K : Int) * 88 < 88 := by omega
        have l4' : ¬ (22528 : Int) < (A : Int) + (K : Int) * 88 := by omega
        clear ho2 hl2 hf2 hk2 hrecl hRB hZ k1
        go_wp2_with (refine (at_any b _ _ _ _ HI2.out).mono ?_; rintro e x3 ⟨rfl, rfl⟩)
        obtain ⟨xo, rfl⟩ : ∃ xo : World, xo = x2 := ⟨_, rfl⟩
        go_loopw [21] (fun i wi => ∃ k : Nat, k ≤ K * 88 ∧ i = .int .i64 k ∧ Hid (wi.heap[g]? = some (.cells (bv (Z ++ RB.take k ++ zs0.drop (A + k))).toArray 5 (0, 0))) ∧ Hid (Frm [g] xo wi)) (fun i _ => K * 88 - (intOf i).toNat)
        case atStart => exact ⟨0, Nat.zero_le _, rfl, hid (by have h := HG2.out; simpa using h), hid (Frm.refl _ _)⟩
        case round =>
          obtain ⟨k, hk, rfl, hcur, hfk⟩ := hrel
          by_cases hlk : k < K * 88
          · have hnew := set_row Z RB zs0 A k HZL.out (by rw [HRL.out]; exact hlk) (by rw [HZ0.out]; omega)
            have hll : (Z ++ RB.take k ++ zs0.drop (A + k)).length = 22528 := by
              rw [List.length_append, List.length_append, List.length_take, List.length_drop, HZL.out, HRL.out, HZ0.out]; omega
            obtain ⟨cur, hcu⟩ : ∃ cur, Z ++ RB.take k ++ zs0.drop (A + k) = cur := ⟨_, rfl⟩
            rw [hcu] at hcur hnew hll
            have HNEW := hid hnew
            have hc : wr.cell? ⟨g, A + k, none⟩ = some (.int .u8 (cur.getD (A + k) 0)) := by
              rw [cell_of_row wr g (A + k) _ _ (0,0) hcur.out]
              simpa using bv_get (zs := cur) (i := A + k) (by rw [hll]; omega)
            have hfz := frozen_of_row wr g (A + k) _ _ hcur.out
            obtain ⟨gb, hp2b, hcb⟩ : ∃ gb, p2 = some ⟨gb, 0, none⟩ ∧ wr.cell? ⟨gb, k, none⟩ = some (.int .u8 (RB.getD k 0)) := by
              have hok := HO2.out.kept hfk.out (by rw [own_blk]; intro k hk h; have := hk2b.out k hk; simp at h; omega)
              obtain ⟨gb, e1, _, e2, _, _⟩ := hok.setAt HRL.out hlk
              exact ⟨gb, e1, e2⟩
            subst hp2b
            obtain ⟨y, hy⟩ : ∃ y, cur.getD (A + k) 0 = y := ⟨_, rfl⟩
            obtain ⟨x, hx⟩ : ∃ x, RB.getD k 0 = x := ⟨_, rfl⟩
            rw [hy] at hc
            rw [hx] at hcb HNEW
            have s0 : (0 : Int) ≤ (A : Int) + (k : Int) := by omega
            have s1 : (A : Int) + (k : Int) < 22528 := by omega
            have s2 : ((A : Int) + (k : Int)).toNat = A + k := by omega
            have s3 : (k : Int) < (K : Int) * 88 := by omega
            clear hnew hll hcu hy hx
            go_wp2_with fail
            go_roundw
            case rel =>
              refine ⟨k + 1, by omega, by go_num, ?_, hid (hfk.out.setCell _ _ (by simp))⟩
              show _ = _
              rw [heap_setCell_same wr g (A + k) _ _ _ hcur.out, ← HNEW.out]
              congr 2
              apply Array.ext'
              simp [bv, List.map_set]
            case measure => simp [intOf]; omega
          · obtain rfl : k = K * 88 := by omega
            have hF := HF2.out.trans hfk.out (fun i hi _ => hi)
            have k3 := HK.out wr hF
            have HF3 := hid hF
            have HCU : Hid (wr.heap[g]? = some (.cells (bv (recsB bn 1 (ls ++ [ns]) ++ zs0.drop (A + K * 88))).toArray 5 (0, 0))) := hid (by
              have h := hcur.out
              rw [List.take_of_length_le (by rw [HRL.out]; omega)] at h
              rw [recsB_snoc, HB.out, HRB.out, HZ.out]
              exact h)
            have hlen : (recsB bn 1 (ls ++ [ns])).length = A + K * 88 := by rw [recsB_snoc, List.length_append, recB_length, HA.out, HN.out, HK2.out]
            have HLEN := hid hlen
            have hlst : (recsB bn 1 (ls ++ [ns]).dropLast).length = A := by rw [List.dropLast_concat, HA.out]
            have HLST := hid hlst
            have HL3 := hid (HL2.out.kept hfk.out (by simp; omega))
            have HI3 := hid (HI2.out.kept hfk.out (by simp; omega))
            have hfa : Frm [] wr (wr.alloc (.cells #[.slice q m d] 22)) := (Frm.refl _ _).alloc _
            have HLY := hid (HL3.out.kept hfa (by simp))
            have HIA := hid (HI3.out.kept hfa (by simp))
            have HFA := hid (HF3.out.trans hfa (by simp))
            have HGA := hid (hfa.heap HCU.out (by simp))
            have HRV : Hid (Rv (wr.alloc (.cells #[.slice q m d] 22)) (some ⟨wr.heap.size, 0, none⟩) [.slice q m d]) := hid (rv_block (cs := #[.slice q m d]) (heap_alloc_new _ _))
            have hbw2 : b < (wr.alloc (.cells #[.slice q m d] 22)).heap.size := HIA.out.cells.1
            have HBW2 := hid hbw2
            clear hlk hF hlen hlst hfa hcur hbw2
            go_wp2_with (at_builtin; refine wpList_appV rfl _ _ 25 rfl 22 1 24 (.slice none 0 0) Try.underlying25 infoR rfl (by decide) p n c vs rfl HLY.out.own (some ⟨wr.heap.size, 0, none⟩) 1 1 [.slice q m d] rfl rfl (by simp) HRV.out (by simp [Value.oneCell']) (by unfold maxLen; omega) (by omega) ?_)
            intro p3 d3 w5 ho3 hf3 hfr3
            have HLZ := hid (HLY.out.snoc HBW2.out HN.out HRD.out ho3.out (fun k hk => by have := hfr3.out k hk; simpa using this))
            have hbq : b ∉ blk p := fun h => by have := HLY.out.newp b h; omega
            have hgq : g ∉ blk p := fun h => by have := HLY.out.newp g h; omega
            have HI5 := hid (HIA.out.kept hf3.out hbq)
            have HG5 := hid (hf3.out.heap HGA.out hgq)
            have HF5 : Hid (Frm [g] w w5) := hid (HFA.out.trans hf3.out (fun i hi hlt => by have := HLY.out.newp i hi; omega))
            have HSM : Hid (∀ x ∈ ls ++ [ns], x.length ≤ 4096) := hid (fun x hx => by
              rcases List.mem_append.1 hx with h | h
              · exact hsm.out x h
              · simp only [List.mem_singleton] at h
                rw [h, HN.out]; exact hm4)
            have HBY : Hid (∀ x ∈ ls ++ [ns], ∀ z ∈ x, 0 ≤ z ∧ z < 256) := hid (fun x hx => by
              rcases List.mem_append.1 hx with h | h
              · exact hby.out x h
              · simp only [List.mem_singleton] at h
                rw [h]; exact HBD.out)
            clear ho3 hf3 hfr3 hbq hgq k3
            go_wp2_with fail
            go_roundw
            case rel =>
              refine ⟨t + 1, p3, n + 1, d3, vs ++ [.slice q m d], ls ++ [ns], by omega, by go_num, rfl, by rw [HLST.out], by rw [HLEN.out]; go_num, HLZ, hid (by rw [HLEN.out]; exact hr2), HSM, HBY, ?_, by rw [HLEN.out]; exact HG5, HF5⟩
              have e1 : 1 + (ls ++ [ns]).length = B + 1 := by rw [List.length_append, List.length_singleton, ← HB.out]; omega
              rw [HLEN.out, e1]
              exact HI5
            case measure => simp [intOf]; omega
      · have hr : roomB A (m : Int) = false := by simpa using hroom
        obtain ⟨er, her1, her2, herr⟩ := append_err b bn A B q m d hA2 hr
        have HER := hid herr
        rw [hr]
        clear hroom hr herr
        go_wp2_with fail
        refine (HER.out _ HI1.out).mono ?_
        rintro e x2 ⟨rfl, hf2⟩
        have HI2 := hid (HI1.out.kept hf2 (by simp))
        have HF2 := hid (HF1.out.trans hf2 (by simp))
        have HG2 := hid (hf2.heap HG1.out (by simp))
        have HL2 := hid (HL1.out.kept hf2 (by simp))
        clear hf2 k1
        go_wp2_with (refine (at_any b _ _ _ _ HI2.out).mono ?_; rintro e x3 ⟨rfl, rfl⟩)
        go_roundw
        case rel => exact ⟨t + 1, p, n, c, vs, ls, by omega, by go_num, rfl, by rw [HFR.out], by rw [HA.out], HL2, hid (by rw [HA.out]; exact hA2), hsm, hby, by rw [HA.out, HB.out]; exact HI2, by rw [HA.out]; exact HG2, HF2⟩
        case measure => simp [intOf]; omega
    · obtain rfl : t = l1 := by omega
      have HP : Hid (PostW W0 bn g zs0 w (.returned (.tuple #[.slice p n c, .int .i64 (FR : Int), .int .i64 (A : Int), .bool true])) wr) := hid
        ⟨p, n, c, vs, ls, by rw [HFR.out, HA.out], hl.out.mono (by omega), by rw [HA.out]; exact hA2, hsm.out, hby.out, by rw [HA.out]; exact hg.out, hf.out⟩
      clear hlt hl hg hi
      go_wp2_with fail
      go_returns
      exact HP.out
end Go.Proofs.Ytiefgfbeemlnjaa
