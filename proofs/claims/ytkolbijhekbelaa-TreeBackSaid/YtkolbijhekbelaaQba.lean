/- TreeBack: what is packed leads back, plain facts. TreeBack, for any arguments. -/
import Derived.Test.YtkolbijhekbelaaQay
import Derived.Test.YtkolbijhekbelaaQat
namespace Go.Proofs.Ytkolbijhekbelaa
section
open Go.RowKit Go.Lib
set_option maxRecDepth 100000

theorem np_add (n m : Nat) (hn : 0 < n) : np n (n + m) = np n m + 1 := by
  unfold np
  rw [show n + m + n - 1 = (m + n - 1) + n by omega, Nat.add_div_right _ hn]
theorem cutL_cons {α : Type} {n : Nat} (hn : 0 < n) {x r : List α} (hx : x.length = n) : cutL n (x ++ r) = x :: cutL n r := by
  unfold cutL
  rw [List.length_append, hx, np_add _ _ hn, List.range_succ_eq_map, List.map_cons, List.map_map]
  have h0 : pc n 0 (x ++ r) = x := by unfold pc; rw [Nat.zero_mul, List.drop_zero, ← hx, List.take_left']; rfl
  rw [h0]
  congr 1
  refine List.map_congr_left fun i _ => ?_
  show pc n (i + 1) (x ++ r) = pc n i r
  unfold pc
  rw [show (i + 1) * n = x.length + i * n by rw [Nat.succ_mul, hx, Nat.add_comm], List.drop_length_add_append]
theorem cutL_flat {α : Type} {n : Nat} (hn : 0 < n) : ∀ ls : List (List α), (∀ x ∈ ls, x.length = n) → cutL n ls.flatten = ls
  | [], _ => by simp [cutL, np, Nat.div_eq_of_lt (Nat.sub_lt hn Nat.one_pos)]
  | x :: ls, h => by
    rw [List.flatten_cons, cutL_cons hn (h x List.mem_cons_self), cutL_flat hn ls (fun y hy => h y (List.mem_cons_of_mem _ hy))]
theorem blank_rep {xs : List Int} (h : blank xs = true) : xs = List.replicate xs.length 0 := by
  refine List.eq_replicate_iff.2 ⟨rfl, fun b hb => ?_⟩
  unfold blank at h
  have := List.all_eq_true.1 h b hb
  simpa using this
theorem blank_app (a b : List Int) : blank (a ++ b) = (blank a && blank b) := by unfold blank; rw [List.all_append]
theorem ptr_blank {p : P9} (hp : p.ok) (h : checkP p = 0) (hb : blank (ptrB p) = true) : p = zero9 := by
  have h1 := blank_rep hb
  rw [ptrB_length] at h1
  have h2 := decP_ptrB p hp h
  rw [h1] at h2
  have h3 : decP (List.replicate 64 0) = (zero9, 0) := by kernel_rfl
  rw [h3] at h2
  exact (Prod.mk.inj h2).1.symm
theorem blk_blank : ∀ {l : List P9}, (∀ p ∈ l, p.ok ∧ checkP p = 0) → blank (blkOf l) = true → l = List.replicate l.length zero9
  | [], _, _ => rfl
  | p :: l, h, hb => by
    have e : blkOf (p :: l) = ptrB p ++ blkOf l := rfl
    rw [e, blank_app, Bool.and_eq_true] at hb
    have h1 := ptr_blank (h p List.mem_cons_self).1 (h p List.mem_cons_self).2 hb.1
    have h2 := blk_blank (fun q hq => h q (List.mem_cons_of_mem _ hq)) hb.2
    rw [List.length_cons, List.replicate_succ, ← h2, h1]
/-- A block that is not blank leads back. -/
theorem unp_back {l : List P9} (h : ∀ p ∈ l, p.ok ∧ checkP p = 0) (h1 : 1 ≤ l.length) (h2 : l.length ≤ 16) : unpE (blkOf l) = 0 ∧ unpL (blkOf l) = l := by
  have hc : cutL 64 (blkOf l) = l.map ptrB := cutL_flat (by omega) (l.map ptrB) (fun x hx => by obtain ⟨p, _, rfl⟩ := List.mem_map.1 hx; exact ptrB_length p)
  have hd : ∀ p ∈ l, decP (ptrB p) = (p, 0) := fun p hp => decP_ptrB p (h p hp).1 (h p hp).2
  refine ⟨?_, ?_⟩
  · unfold unpE
    rw [if_neg (by unfold badU; rw [blkOf_len]; omega), if_pos (fun x hx => ?_)]
    rw [hc] at hx
    obtain ⟨p, hp, rfl⟩ := List.mem_map.1 hx
    rw [hd p hp]
  · unfold unpL
    rw [hc, List.map_map]
    have : ∀ p ∈ l, ((fun x => (decP x).1) ∘ ptrB) p = p := fun p hp => by show (decP (ptrB p)).1 = p; rw [hd p hp]
    rw [List.map_congr_left this, List.map_id']
theorem form_back {s : Sl} (hok : s.root.ok) (h : mayS s = true) : slotE (formS s) = true ∧ slotP (formS s) = s := by
  have hl := formS_len s
  have hby := formS_byte s
  obtain ⟨hf, h0, h1, h2⟩ := mayS_form h
  rw [le_sz] at hf
  unfold szB at hf
  have hf' : formS s = ub s.used :: 0 :: 0 :: 0 :: (s.size % 256) :: (s.size / 256 % 256) :: (s.size / 65536 % 256) :: (s.size / 16777216 % 256) :: ptrB s.root := hf
  have hd : decP (ptrB s.root) = (s.root, 0) := decP_ptrB s.root hok h2
  have hu : decide (ub s.used = 1) = s.used := by cases s.used <;> rfl
  have hp : slotP (formS s) = s := by
    rw [hf']
    have e1 : num4 (ub s.used :: 0 :: 0 :: 0 :: (s.size % 256) :: (s.size / 256 % 256) :: (s.size / 65536 % 256) :: (s.size / 16777216 % 256) :: ptrB s.root) = s.size := by
      show s.size % 256 + 256 * (s.size / 256 % 256) + 65536 * (s.size / 65536 % 256) + 16777216 * (s.size / 16777216 % 256) = s.size
      omega
    have e2 : (decP ((ub s.used :: 0 :: 0 :: 0 :: (s.size % 256) :: (s.size / 256 % 256) :: (s.size / 65536 % 256) :: (s.size / 16777216 % 256) :: ptrB s.root).drop 8)).1 = s.root := by
      show (decP (ptrB s.root)).1 = s.root
      rw [hd]
    unfold slotP
    rw [e1, e2]
    show (⟨decide (ub s.used = 1), s.size, s.root⟩ : Sl) = s
    rw [hu]
  refine ⟨?_, hp⟩
  unfold slotE
  rw [hp, h, decide_eq_true (p := formS s = formS s) rfl]
  have e3 : (decP ((formS s).drop 8)).2 = 0 := by
    rw [hf']
    show (decP (ptrB s.root)).2 = 0
    rw [hd]
  rw [e3]
  rfl
/-- A table leads back. -/
theorem tab_back {l : List Sl} (hok : ∀ s ∈ l, s.root.ok) (h : tabE l = 0) : sltE (tabB l) = 0 ∧ sltL (tabB l) = l := by
  unfold tabE at h
  by_cases hbig : 112 < l.length
  · rw [if_pos hbig] at h; omega
  rw [if_neg hbig] at h
  by_cases hall : ∀ s ∈ l, mayS s = true
  case neg => rw [if_neg hall] at h; omega
  have hc : cutL 72 (tabB l) = l.map formS := cutL_flat (by omega) (l.map formS) (fun x hx => by obtain ⟨p, _, rfl⟩ := List.mem_map.1 hx; exact formS_len p)
  refine ⟨?_, ?_⟩
  · unfold sltE
    rw [if_neg (by unfold badT; rw [tabB_len]; omega), if_pos (fun x hx => ?_)]
    rw [hc] at hx
    obtain ⟨s, hs, rfl⟩ := List.mem_map.1 hx
    exact (form_back (hok s hs) (hall s hs)).1
  · unfold sltL
    rw [hc, List.map_map]
    have : ∀ s ∈ l, (slotP ∘ formS) s = s := fun s hs => (form_back (hok s hs) (hall s hs)).2
    rw [List.map_congr_left this, List.map_id']
/-- A block of bytes leads back. -/
theorem split_get {bs : List Int} {i : Nat} {x : List Int} (h : (splitL bs)[i]? = some x) : i * 1024 < bs.length ∧ (x = [] ∧ pc 1024 i bs = List.replicate (pc 1024 i bs).length 0 ∨ x ≠ [] ∧ x = pc 1024 i bs) := by
  unfold splitL at h
  rw [List.getElem?_map] at h
  cases hc : (cutL 1024 bs)[i]? with
  | none => rw [hc] at h; cases h
  | some y =>
    rw [hc] at h
    obtain ⟨e1, e2⟩ := pc_get hc
    have h3 := np_le (by omega) e2
    refine ⟨h3, ?_⟩
    simp only [Option.map_some, Option.some.injEq] at h
    rw [← e1]
    by_cases hb : blank y = true
    · rw [if_pos hb] at h
      exact Or.inl ⟨h.symm, blank_rep hb⟩
    · rw [if_neg hb] at h
      subst h
      refine Or.inr ⟨fun h0 => ?_, rfl⟩
      rw [h0] at hb
      exact hb rfl
theorem pc_next (n i : Nat) (bs : List Int) : bs.take (i * n) ++ pc n i bs = bs.take ((i + 1) * n) := by
  unfold pc
  rw [Nat.succ_mul, List.take_add]
theorem pack_get {l : List P9} {i : Nat} {x : List Int} (hok : ∀ p ∈ l, p.ok) (he : packE l = 0) (h : (packB l)[i]? = some x) : i * 16 < l.length ∧ 1 ≤ (pc 16 i l).length ∧ (pc 16 i l).length ≤ 16 ∧ (x = [] ∧ pc 16 i l = List.replicate (pc 16 i l).length zero9 ∨ x ≠ [] ∧ unpE x = 0 ∧ unpL x = pc 16 i l ∧ x.length ≤ 1024 ∧ ∀ z ∈ x, 0 ≤ z ∧ z < 256) := by
  unfold packB at h
  rw [List.getElem?_map] at h
  cases hc : (cutL 16 l)[i]? with
  | none => rw [hc] at h; cases h
  | some y =>
    rw [hc] at h
    obtain ⟨e1, e2⟩ := pc_get hc
    obtain ⟨yne, yle, yin⟩ := cutL_mem (n := 16) (by omega) (List.mem_of_getElem? hc)
    have h3 := np_le (by omega) e2
    have hck : ∀ p ∈ l, checkP p = 0 := by
      unfold packE at he
      split at he
      · omega
      · split at he
        · assumption
        · omega
    have hy : ∀ p ∈ y, p.ok ∧ checkP p = 0 := fun p hp => ⟨hok p (yin p hp), hck p (yin p hp)⟩
    have hlen : 1 ≤ y.length := List.length_pos_iff.2 yne
    refine ⟨h3, by rw [← e1]; exact hlen, by rw [← e1]; exact yle, ?_⟩
    simp only [Option.map_some, Option.some.injEq] at h
    rw [← e1]
    unfold nb at h
    by_cases hb : blank (blkOf y) = true
    · rw [if_pos hb] at h
      exact Or.inl ⟨h.symm, blk_blank hy hb⟩
    · rw [if_neg hb] at h
      subst h
      obtain ⟨u1, u2⟩ := unp_back hy hlen yle
      refine Or.inr ⟨fun h0 => ?_, u1, u2, by rw [blkOf_len]; omega, fun z hz => ?_⟩
      · rw [h0] at hb; exact hb rfl
      · unfold blkOf at hz
        obtain ⟨q, hq, hzq⟩ := List.mem_flatten.1 hz
        obtain ⟨p, _, rfl⟩ := List.mem_map.1 hq
        unfold ptrB at hzq
        rcases List.mem_append.1 hzq with h5 | h5
        · exact bodyP_byte _ z h5
        · obtain rfl := (List.mem_replicate.1 h5).2; omega
theorem pc_getP {l : List P9} {i k : Nat} (h : k < (pc 16 i l).length) : (pc 16 i l)[k]? = l[16 * i + k]? := by
  unfold pc at h ⊢
  rw [List.length_take] at h
  rw [List.getElem?_take, if_pos (by omega), List.getElem?_drop, Nat.mul_comm]
end
section
open Go.RowKit Go.Lib
set_option maxRecDepth 100000

theorem make_p9 (k : Nat) (hk : k ≤ 16) (W : World) : (Instr.makeSlice 30 (.int .i64 (k : Int)) (.int .i64 (k : Int))).run Try.prog W = .ok (.slice (some ⟨W.heap.size, 0, none⟩) k k) (W.alloc (.cells (rowsP (List.replicate k zero9)).toArray 40)) := by
  obtain ⟨i, hi, hz, h1, h2⟩ := info_parts (infoP9)
  have h := run_make (P := Try.prog) W 30 40 i _ Try.underlying30 hi hz .i64 .i64 (k : Int) (k : Int) (by omega) (Int.le_refl _) (by rw [h2]; omega) (by omega)
  rw [h, h1]
  have hc : k = 0 ∨ k = 1 ∨ k = 2 ∨ k = 3 ∨ k = 4 ∨ k = 5 ∨ k = 6 ∨ k = 7 ∨ k = 8 ∨ k = 9 ∨ k = 10 ∨ k = 11 ∨ k = 12 ∨ k = 13 ∨ k = 14 ∨ k = 15 ∨ k = 16 := by omega
  have e : madeCells (Value.agg zero9.arr).cells ((k : Int).toNat * 9) = (rowsP (List.replicate k zero9)).toArray := by
    rcases hc with rfl | rfl | rfl | rfl | rfl | rfl | rfl | rfl | rfl | rfl | rfl | rfl | rfl | rfl | rfl | rfl | rfl <;> kernel_rfl
  rw [show (Value.agg #[.int .i64 0, .int .i64 0, .int .i64 0, .int .u64 0, .int .i64 0, .int .u64 0, .int .u64 0, .int .u64 0, .int .u64 0]).cells = (Value.agg zero9.arr).cells from rfl, e]
  simp
/-- Lists of blocks that are read again and again. -/
theorem OwnK.read {w wr : World} {q : Option Addr} {n c t : Nat} {ls : List Bk} {x : Bk} (h : OwnK w q n c ls) (hf : Frm [] w wr) (hx : ls[t]? = some x) : ∃ g, q = some ⟨g, 0, none⟩ ∧ wr.cell? ⟨g, t, none⟩ = some (.slice x.p x.bs.length x.c) ∧ Rd wr x.p x.bs ∧ x.bs.length ≤ x.c ∧ x.c ≤ 9223372036854775807 := by
  obtain ⟨g, cur, hg, _, hc⟩ := (h.k0 hf).at hx
  have h2 := ((h.k0 hf).it x (List.mem_of_getElem? hx)).1
  exact ⟨g, hg, hc, h2.rd, h2.cp.1, h2.cp.2⟩
theorem up16 {L mk : Nat} (h : mk = (L + 15) / 16) (hb : L ≤ 1954687338212) : wrap64 ((L : Int) + 15) = (L : Int) + 15 ∧ Int.tdiv ((L : Int) + 15) 16 = (mk : Int) ∧ ((L : Int) + 15) / 16 = (mk : Int) ∧ wrap64 (mk : Int) = (mk : Int) := by
  refine ⟨by unfold wrap64; omega, ?_, by omega, by unfold wrap64; omega⟩
  rw [Int.tdiv_eq_ediv_of_nonneg (by omega)]; omega
set_option maxHeartbeats 25600000 in
theorem treeback_any (pb pl pt : Option Addr) (n d L c M f : Nat) (bs : List Int) (l : List P9) (sl : List Sl) (w : World)
    (hrb : Rd w pb bs) (hn : bs.length = n) (hnb : n ≤ 140737488351232) (hd : n ≤ d ∧ d ≤ 9223372036854775807)
    (hr : Rv w pl (rowsP l)) (hL : l.length = L) (hb : L ≤ 1954687338212) (hc : L ≤ c ∧ c ≤ 9223372036854775807) (hok : ∀ v ∈ l, v.ok)
    (hrt : Rv w pt (rowsSl sl)) (hM : sl.length = M) (hbt : M ≤ 1954687338212) (hokt : ∀ s ∈ sl, s.root.ok) :
    Calls Try.prog 7 #[.slice pb n d, .slice pl L c, .slice pt M f] w fun e w' => e = .returned (.bool true) ∧ Frm [] w w' := by
  obtain ⟨PO, hPO⟩ : ∃ PO : Ending → World → Prop, (fun e w' => e = .returned (.bool true) ∧ Frm [] w w') = PO := ⟨_, rfl⟩
  rw [hPO]
  have HP : Hid (∀ w', Frm [] w w' → PO (.returned (.bool true)) w') := hid (fun w' h => by rw [← hPO]; exact ⟨rfl, h⟩)
  have HRB := hid (fun W (hf : Frm [] w W) => hrb.kept hf (by simp))
  have HN := hid hn
  have HR := hid (fun W (hf : Frm [] w W) => hr.kept hf (by simp))
  have HL := hid hL
  have HOK := hid hok
  have HRT := hid (fun W (hf : Frm [] w W) => hrt.kept hf (by simp))
  have HM := hid hM
  have HAW := hid (awakeT_any w)
  have HSP := hid (fun W (hf : Frm [] w W) => split_any pb n d bs W (hrb.kept hf (by simp)) hn hnb hd)
  have HPK := hid (fun W (hf : Frm [] w W) => pack_any pl L c l W (hr.kept hf (by simp)) hL (by omega) hc hok)
  have HTA := hid (fun W (hf : Frm [] w W) => table_any pt M f sl W (hrt.kept hf (by simp)) hM hbt hokt)
  have HTB := hid (tab_back (l := sl) hokt)
  clear hPO hrb hn hr hL hok hrt hM hokt
  go_enter Try.func7, Try.ntmps7
  go_wp2_with fail
  refine HAW.out.mono ?_
  rintro e w1 ⟨rfl, hf1⟩
  have HF1 := hid hf1
  clear hf1 HAW
  go_wp2_with fail
  refine (HSP.out w1 HF1.out).mono ?_
  rintro e w2 ⟨q, m, cq, ls, rfl, ho, hls, hf, hnw⟩
  have HO := hid ho
  have HLS := hid hls
  have HF2 := hid (HF1.out.trans hf (by simp))
  have hmn : m = (n + 1023) / 1024 := by rw [← ho.ln, ← List.length_map (f := Bk.bs), hls]; unfold splitL; rw [List.length_map, cutL_len, HN.out]; unfold np; rfl
  have hmb : m ≤ 140737488351232 := by omega
  have hm1 : n ≤ m * 1024 := by omega
  have hw1 : wrap64 ((n : Int) + 1023) = (n : Int) + 1023 := by unfold wrap64; omega
  have hw2 : Int.tdiv ((n : Int) + 1023) 1024 = (m : Int) := by rw [Int.tdiv_eq_ediv_of_nonneg (by omega)]; omega
  have hw3 : ((n : Int) + 1023) / 1024 = (m : Int) := by omega
  have hw4 : wrap64 (m : Int) = (m : Int) := by unfold wrap64; omega
  clear ho hls hf hnw HSP hmn
  go_upto_region 5 with fail
  clear hw1 hw2 hw3 hw4
  go_wp2_with fail
  go_loopw [10, 9] (fun i s9 wr => ∃ (t nA : Nat) (qa : Option Addr) (ca : Nat), t ≤ m ∧ nA ≤ n ∧ i = .int .i64 (t : Int) ∧ s9 = .slice qa nA ca ∧ Hid (AppT w2 wr qa nA ca (bs.take (t * 1024)))) (fun i _ _ => m - (intOf i).toNat)
  case atStart => exact ⟨0, 0, none, 0, Nat.zero_le _, Nat.zero_le _, rfl, rfl, hid ⟨Frm.refl _ _, Own.nil _ _, by simp [blk], by simp⟩⟩
  case round =>
    obtain ⟨t, nA, qa, ca, ht, hnA, rfl, rfl, hin⟩ := hrel
    have HIN := hid hin.out
    clear hin
    by_cases hlt : t < m
    · have t1 : (t : Int) < (m : Int) := by omega
      obtain ⟨x, hx⟩ : ∃ x, ls[t]? = some x := ⟨_, List.getElem?_eq_getElem (by rw [HO.out.ln]; exact hlt)⟩
      obtain ⟨g, hgq, q0, hrx, hxc, hxc2⟩ := HO.out.read HIN.out.fr hx
      have hxs : (splitL bs)[t]? = some x.bs := by rw [← HLS.out, List.getElem?_map, hx]; rfl
      obtain ⟨hti, hor⟩ := split_get hxs
      have HTI := hid hti
      obtain ⟨K, hK⟩ : ∃ K, (pc 1024 t bs).length = K := ⟨_, rfl⟩
      have HKK : Hid (K = min 1024 (n - t * 1024)) := hid (by rw [← hK]; unfold pc; rw [List.length_take, List.length_drop, HN.out])
      have hK1 : K ≤ 1024 := by have := HKK.out; omega
      have HTN : Hid (t * 1024 < n) := hid (by rw [← HN.out]; exact hti)
      have hKn : t * 1024 + K ≤ n := by have := HKK.out; have := HTN.out; omega
      have HPN := hid (pc_next 1024 t bs)
      have HNA : Hid (nA = t * 1024) := hid (by rw [← HIN.out.ln, List.length_take, HN.out]; have := HTN.out; omega)
      obtain ⟨pcs, hpcs⟩ : ∃ z, pc 1024 t bs = z := ⟨_, rfl⟩
      rw [hpcs] at hor hK HPN
      rw [hK] at hor
      have HK := hid hK
      have hnK : nA + K ≤ n := by have := HNA.out; omega
      subst hgq
      clear hx hxs hti hK hpcs
      rcases hor with ⟨hx0, hpr⟩ | ⟨hxne, hxe⟩
      · rw [hx0] at q0
        have HPR := hid hpr
        have hlen0 : ([] : List Int).length = 0 := rfl
        rw [hlen0] at q0
        have hs1 : wrap64 (1024 * (t : Int)) = 1024 * (t : Int) := by unfold wrap64; omega
        have hs2 : wrap64 ((n : Int) - 1024 * (t : Int)) = (n : Int) - 1024 * (t : Int) := by unfold wrap64; omega
        clear hx0 hpr hrx hlen0
        go_upto_if 54 with fail
        go_cut [12] from 35 to 59 (fun v wx => v = .int .i64 (K : Int) ∧ wx = wr)
        case first =>
          by_cases hmm : (1024 : Int) < (n : Int) - 1024 * (t : Int)
          · have HX : Hid ((K : Int) = 1024) := hid (by have := HKK.out; omega)
            go_wp2_with fail
            go_meet
            case rel => exact ⟨by rw [HX.out], rfl⟩
          · have HX : Hid ((K : Int) = (n : Int) - 1024 * (t : Int)) := hid (by have := HKK.out; omega)
            go_wp2_with fail
            go_meet
            case rel => exact ⟨by rw [HX.out], rfl⟩
        obtain ⟨rfl, hwc⟩ := hcut
        have hwr := hwc.symm
        clear hwc
        subst hwr
        clear hs1 hs2
        have hmk := make_u8 K (by omega) wr
        have HA := hid ((Frm.refl [] wr).alloc (.cells (bv (List.replicate K 0)).toArray 5))
        have HRV : Hid (Rd (wr.alloc (.cells (bv (List.replicate K 0)).toArray 5)) (some ⟨wr.heap.size, 0, none⟩) (List.replicate K 0)) := hid (rd_blockT (heap_alloc_new wr (.cells (bv (List.replicate K 0)).toArray 5)))
        have HAP := hid (HIN.out.k0 HA.out)
        obtain ⟨zr, hzr⟩ : ∃ z, List.replicate K (0 : Int) = z := ⟨_, rfl⟩
        have HZR : Hid (zr.length = K) := hid (by rw [← hzr]; simp)
        have HZE : Hid (pcs = zr) := hid (by rw [HPR.out, hzr])
        rw [hzr] at hmk HA HRV HAP
        clear hzr
        go_wp2_with (at_builtin; refine wpList_appB rfl _ _ 22 rfl 5 Try.underlying22 infoU8 qa nA ca (bs.take (t * 1024)) rfl HAP.out.ln.symm (by rw [HAP.out.ln]; exact HAP.out.ow) (some ⟨wr.heap.size, 0, none⟩) K K zr rfl HZR.out.symm (fun _ h => by cases h) HRV.out (by rw [HAP.out.ln, HZR.out]; omega) ?_)
        intro x1 p1 c1 v1 hx1 ho1 hf1 hb1
        have hl1 : x1.length = nA + K := by rw [hx1.out, List.length_append, HAP.out.ln, HZR.out]
        have HNX : Hid (AppT w2 v1 p1 (nA + K) c1 (bs.take ((t + 1) * 1024))) := hid (by
          have h := HAP.out.put hx1.out ho1.out hf1.out (fun k hk => (hb1.out k hk).imp (fun h => h) (fun h => by first | exact h | (simp at h ⊢; omega))) hl1
          rw [← HZE.out, HPN.out] at h
          exact h)
        rw [hl1]
        clear hx1 ho1 hf1 hb1 hl1 hmk HAP HRV HA
        go_wp2_with fail
        go_roundw
        case rel => exact ⟨t + 1, nA + K, p1, c1, by omega, by omega, by go_num, by go_num, HNX⟩
        case measure => first | (simp [intOf]; done) | (simp [intOf]; omega)
      · obtain ⟨xs, hxs⟩ : ∃ z, x.bs = z := ⟨_, rfl⟩
        rw [hxs] at q0 hrx hxne hxe hxc
        have HXE := hid hxe
        obtain ⟨xl, hxl⟩ : ∃ z, xs.length = z := ⟨_, rfl⟩
        have HXL := hid hxl
        have hxl0 : 0 < xl := by rw [← hxl]; exact List.length_pos_iff.2 hxne
        have HXK : Hid (xl = K) := hid (by rw [← hxl, hxe]; exact HK.out)
        rw [hxl] at q0
        have HRX := hid hrx
        have hb0 : ((xl : Int) == 0) = false := by simp; omega
        have hxK : nA + xl ≤ n := by have := HXK.out; omega
        clear hxs hxe hxl hrx hxne
        go_wp2_with (at_builtin; refine wpList_appB rfl _ _ 22 rfl 5 Try.underlying22 infoU8 qa nA ca (bs.take (t * 1024)) rfl HIN.out.ln.symm (by rw [HIN.out.ln]; exact HIN.out.ow) x.p xl x.c xs rfl HXL.out.symm (fun h0 _ => by have := HXL.out; rw [h0] at this; simp at this; omega) HRX.out (by rw [HIN.out.ln, HXL.out]; omega) ?_)
        intro x1 p1 c1 v1 hx1 ho1 hf1 hb1
        have hl1 : x1.length = nA + xl := by rw [hx1.out, List.length_append, HIN.out.ln, HXL.out]
        have HNX : Hid (AppT w2 v1 p1 (nA + xl) c1 (bs.take ((t + 1) * 1024))) := hid (by
          have h := HIN.out.put hx1.out ho1.out hf1.out (fun k hk => (hb1.out k hk).imp (fun h => h) (fun h => by first | exact h | (simp at h ⊢; omega))) hl1
          rw [HXE.out, HPN.out] at h
          exact h)
        rw [hl1]
        clear hx1 ho1 hf1 hb1 hl1
        go_wp2_with fail
        go_roundw
        case rel => exact ⟨t + 1, nA + xl, p1, c1, by omega, by omega, by go_num, by go_num, HNX⟩
        case measure => first | (simp [intOf]; done) | (simp [intOf]; omega)
    · have HAL : Hid (AppT w2 wr qa nA ca bs) := hid (by
        have h := HIN.out
        rw [List.take_of_length_le (by rw [HN.out]; omega)] at h
        exact h)
      have HFA := hid (HF2.out.trans HAL.out.fr (by simp))
      have hcv1 := cv_any (P := Try.prog) (w := wr) 22 5 9 Try.underlying22 Try.underlying5 Try.underlying9 HAL.out.ow.rd ca HAL.out.ln
      have hcv2 := cv_any (P := Try.prog) (w := wr) 22 5 9 Try.underlying22 Try.underlying5 Try.underlying9 (HRB.out wr HFA.out) d HN.out
      generalize strOfNums bs = S at hcv1 hcv2
      clear HIN HO HLS HF1
      go_wp2_with fail
      generalize wr = wA at *
      clear HAL hlt ht hcv1 hcv2 hm1 hmb hnA hd hnb
      refine (HPK.out wA HFA.out).mono ?_
      intro e w3 hpa
      obtain ⟨qk, mk, ck, lk, rfl, hok2, hlk, hnk, hfk⟩ := hpa.one
      obtain ⟨C, hC⟩ : ∃ z, packE l = z := ⟨_, rfl⟩
      rw [hC] at hlk ⊢
      have HC := hid hC
      have HOKK := hid hok2
      have HF3 := hid (HFA.out.trans hfk (by simp))
      have HMK : Hid ((C ≠ 0 → mk = 0) ∧ (C = 0 → mk = (L + 15) / 16)) := hid ⟨fun h => by rw [← hok2.ln, ← List.length_map (f := Bk.bs), hlk, if_neg h]; rfl, fun h => by rw [← hok2.ln, ← List.length_map (f := Bk.bs), hlk, if_pos h]; unfold packB; rw [List.length_map, cutL_len, HL.out]; unfold np; rfl⟩
      have HLK : Hid (C = 0 → lk.map Bk.bs = packB l) := hid (fun h => by rw [hlk, if_pos h])
      have hmkb : mk ≤ 140737488351232 := by have h := HMK.out; by_cases h0 : C = 0 <;> simp [h0] at h <;> omega
      clear hpa hok2 hlk hnk hfk hC HPK
      go_upto_region 19 with fail
      go_cut [84] (fun v wx => v = .bool false ∧ wx = w3)
      case first =>
        by_cases h0 : C = 0
        · obtain ⟨hw1, hw2, hw3, hw4⟩ := up16 (HMK.out.2 h0) hb
          subst h0
          go_wp2_with fail
          go_meet
          case rel => exact ⟨by first | rfl | (simp; done) | (simp; omega), rfl⟩
        · have hcb : (C == 0) = false := by simpa using h0
          go_wp2_with fail
          go_meet
          case rel => exact ⟨rfl, rfl⟩
      obtain ⟨rfl, hwc⟩ := hcut
      have hwr := hwc.symm
      clear hwc
      subst hwr
      go_wp2_with fail
      go_loopw [15] (fun i wr => ∃ t : Nat, t ≤ mk ∧ i = .int .i64 (t : Int) ∧ Hid (Frm [] w3 wr)) (fun i _ => mk - (intOf i).toNat)
      case atStart => exact ⟨0, Nat.zero_le _, rfl, hid (Frm.refl _ _)⟩
      case round =>
        obtain ⟨t, ht, rfl, hin⟩ := hrel
        have HIN := hid hin.out
        clear hin
        by_cases hlt : t < mk
        · have t1 : (t : Int) < (mk : Int) := by omega
          have hC0 : C = 0 := Classical.byContradiction (fun h => by have := HMK.out.1 h; omega)
          have hcb : (C == 0) = true := by rw [hC0]; rfl
          have hcd : decide (C = 0) = true := decide_eq_true hC0
          obtain ⟨x, hx⟩ : ∃ x, lk[t]? = some x := ⟨_, List.getElem?_eq_getElem (by rw [HOKK.out.ln]; exact hlt)⟩
          obtain ⟨g, hgq, q0, hrx, hxc, hxc2⟩ := HOKK.out.read HIN.out hx
          have hxb : (packB l)[t]? = some x.bs := by rw [← HLK.out hC0, List.getElem?_map, hx]; rfl
          obtain ⟨ht16, hk1, hk2, hor⟩ := pack_get HOK.out (by rw [HC.out]; exact hC0) hxb
          have hget := fun k => @pc_getP l t k
          obtain ⟨pcs, hpcs⟩ : ∃ z, pc 16 t l = z := ⟨_, rfl⟩
          rw [hpcs] at hk1 hk2 hor hget
          obtain ⟨K, hK⟩ : ∃ K, pcs.length = K := ⟨_, rfl⟩
          rw [hK] at hk1 hk2 hor hget
          have HKL : Hid (K = min 16 (L - t * 16)) := hid (by rw [← hK, ← hpcs]; unfold pc; rw [List.length_take, List.length_drop, HL.out])
          have HK := hid hK
          have HTL : Hid (t * 16 < L) := hid (by rw [← HL.out]; exact ht16)
          have htb : t ≤ 1954687338212 := by have := HTL.out; omega
          have HGET := hid hget
          have HOR := hid hor
          obtain ⟨xs, hxs⟩ : ∃ z, x.bs = z := ⟨_, rfl⟩
          rw [hxs] at q0 hrx hxc HOR
          obtain ⟨xl, hxl⟩ : ∃ z, xs.length = z := ⟨_, rfl⟩
          rw [hxl] at q0 hxc
          have HXL := hid hxl
          have HRX := hid hrx
          subst hgq
          clear hx hxb hpcs hK ht16 hget hor hxs hrx hxl hC0
          have hs1 : wrap64 (16 * (t : Int)) = 16 * (t : Int) := by unfold wrap64; omega
          have hs2 : wrap64 ((L : Int) - 16 * (t : Int)) = (L : Int) - 16 * (t : Int) := by unfold wrap64; omega
          go_upto_if 101 with fail
          go_cut [16] from 85 to 142 (fun v wx => v = .int .i64 (K : Int) ∧ wx = wr)
          case first =>
            by_cases hmm : (16 : Int) < (L : Int) - 16 * (t : Int)
            · have HX : Hid ((K : Int) = 16) := hid (by have := HKL.out; omega)
              go_wp2_with fail
              go_meet
              case rel => exact ⟨by rw [HX.out], rfl⟩
            · have HX : Hid ((K : Int) = (L : Int) - 16 * (t : Int)) := hid (by have := HKL.out; have := HTL.out; omega)
              go_wp2_with fail
              go_meet
              case rel => exact ⟨by rw [HX.out], rfl⟩
          obtain ⟨rfl, hwc⟩ := hcut
          have hwr := hwc.symm
          clear hwc
          subst hwr
          clear hs1 hs2
          have hmk := make_p9 K (by omega) wr
          obtain ⟨wm, hwm⟩ : ∃ z, wr.alloc (.cells (rowsP (List.replicate K zero9)).toArray 40) = z := ⟨_, rfl⟩
          have hFM : Frm [] wr wm := by rw [← hwm]; exact (Frm.refl _ _).alloc _
          have HFM := hid hFM
          obtain ⟨bm, hbm⟩ : ∃ z, wr.heap.size = z := ⟨_, rfl⟩
          have HROW : Hid (wm.heap[bm]? = some (.cells (rowsP (List.replicate K zero9)).toArray 40 (0, 0))) := hid (by rw [← hwm]; exact heap_alloc_to _ _ hbm)
          rw [hwm, hbm] at hmk
          have q1 := (hFM.cell (World.block_lt_of_cell? _ _ q0) (by simp)).trans q0
          clear hFM hwm hbm q0
          go_upto_if 109 with fail
          go_cut [17, 18] from 85 to 142 (fun v z wx => ∃ (pm : Option Addr) (cm : Nat), v = .slice pm K cm ∧ z = .int .i64 0 ∧ Hid (Frm [] w3 wx ∧ Rv wx pm (rowsP pcs)))
          case first =>
            rcases HOR.out with ⟨hx0, hpz⟩ | ⟨hxne, hu1, hu2, hu3, hu4⟩
            · have hxl0 : xl = 0 := by rw [← HXL.out, hx0]; rfl
              subst hxl0
              clear hx0
              have HPZ := hid hpz
              clear hpz
              go_wp2_with fail
              go_meet
              case rel => exact ⟨some ⟨bm, 0, none⟩, K, rfl, rfl, hid ⟨HIN.out.trans HFM.out (by simp), by rw [HPZ.out]; exact Or.inr ⟨bm, 0, rfl, fun i u hu => by rw [Nat.zero_add, cell_of_row _ _ _ _ _ _ HROW.out]; simpa using hu⟩⟩⟩
            · have hxl0 : 0 < xl := by rw [← HXL.out]; exact List.length_pos_iff.2 hxne
              have HU := hid (unpack_any x.p xl x.c xs wm (HRX.out.kept HFM.out (by simp)) HXL.out (by rw [← HXL.out]; omega) ⟨hxc, hxc2⟩ hu4)
              have hur : unpR xs = pcs := by unfold unpR; rw [if_pos hu1]; exact hu2
              have HUR := hid hur
              have HUE := hid hu1
              clear hu1 hu2 hu3 hu4 hur hxne
              go_wp2_with fail
              refine HU.out.mono ?_
              intro e w5 hua
              obtain ⟨qu, mu, cu, rfl, h1, h2, h3, h4, h5⟩ := hua.one
              rw [HUR.out] at h1 h2
              rw [HUE.out]
              obtain rfl : mu = K := by rw [h2, HK.out]
              have HRM : Hid (Frm [] w3 w5 ∧ Rv w5 qu (rowsP pcs)) := hid ⟨(HIN.out.trans HFM.out (by simp)).trans h5 (by simp), rv_ofP h1 HK.out⟩
              clear hua h1 h2 h3 h4 h5 HU
              go_wp2_with fail
              go_meet
              case rel => exact ⟨qu, cu, rfl, rfl, HRM⟩
          obtain ⟨pm, cm, rfl, rfl, hrm⟩ := hcut
          have HRM := hid hrm.out
          clear hrm hmk q1 HROW HFM hxc hxc2
          go_wp2_with fail
          have hs1 : IntKind.i64.wrap (16 * (t : Int)) = 16 * (t : Int) := by rw [IntKind.wrap_i64]; omega
          generalize wc = w7 at *
          go_loopw [19] (fun i wx => ∃ k : Nat, k ≤ K ∧ i = .int .i64 (k : Int) ∧ Hid (Frm [] w7 wx)) (fun i _ => K - (intOf i).toNat)
          case atStart => exact ⟨0, Nat.zero_le _, rfl, hid (Frm.refl _ _)⟩
          case round =>
            obtain ⟨k, hk, rfl, hin⟩ := hrel
            have HI3 := hid hin.out
            clear hin
            by_cases hlt3 : k < K
            · have k1 : (k : Int) < (K : Int) := by omega
              obtain ⟨v, hv⟩ : ∃ v, pcs[k]? = some v := ⟨_, List.getElem?_eq_getElem (by rw [HK.out]; exact hlt3)⟩
              have hvl : l[16 * t + k]? = some v := by rw [← HGET.out k hlt3]; exact hv
              obtain ⟨J, hJ⟩ : ∃ J, 16 * t + k = J := ⟨_, rfl⟩
              rw [hJ] at hvl
              have hJL : (J : Int) < (L : Int) := by have := (List.getElem?_eq_some_iff.1 hvl).1; have := HL.out; omega
              have hs3 : IntKind.i64.wrap (16 * (t : Int) + (k : Int)) = (J : Int) := by rw [IntKind.wrap_i64]; omega
              obtain ⟨g1, o1, hg1, r0, r1, r2, r3, r4, r5, r6, r7, r8⟩ := rowsP_at (HRM.out.2.kept HI3.out (by simp)) hv
              obtain ⟨g2, o2, hg2, q0, q1, q2, q3, q4, q5, q6, q7, q8⟩ := rowsP_at (HR.out _ ((HF3.out.trans HRM.out.1 (by simp)).trans HI3.out (by simp))) hvl
              subst hg1
              subst hg2
              have hne := fun W => eq9_neq v v W
              rw [decide_eq_true (p := v = v) rfl] at hne
              simp only [Bool.not_true] at hne
              unfold P9.arr at hne
              obtain ⟨a0, a1, a2, a3, a4, a5, a6, a7, a8⟩ := v
              simp only at hne r0 r1 r2 r3 r4 r5 r6 r7 r8 q0 q1 q2 q3 q4 q5 q6 q7 q8
              clear hv hvl hJ
              go_wp2_with fail
              go_quiet (fail)
              go_wp2_with fail
              go_roundw
              case rel => exact ⟨k + 1, by omega, by go_num, hid (HI3.out.drewN _)⟩
              case measure => first | (simp [intOf]; done) | (simp [intOf]; omega)
            · obtain rfl : k = K := by omega
              go_wp2_with fail
              go_roundw
              case rel => exact ⟨t + 1, by omega, by go_num, hid (HRM.out.1.trans HI3.out (by simp))⟩
              case measure => first | (simp [intOf]; done) | (simp [intOf]; omega)
        · obtain rfl : t = mk := by omega
          have HF4 := hid (HF3.out.trans HIN.out (by simp))
          generalize wr = w4 at *
          clear hlt ht HIN HMK HLK HOKK hb hc hmkb
          go_wp2_with fail
          refine (HTA.out w4 HF4.out).mono ?_
          intro e w5 hta
          obtain ⟨qt, mt, ct, rfl, ho5, hl5, hf5, _⟩ := hta.one
          obtain ⟨G, hG⟩ : ∃ z, tabE sl = z := ⟨_, rfl⟩
          obtain ⟨ts, hts⟩ : ∃ z, tabR sl = z := ⟨_, rfl⟩
          rw [hts] at ho5 hl5
          rw [hG]
          have HF5 := hid (HF4.out.trans hf5 (by simp))
          have HTS : Hid (ts.length ≤ 140737488351232 ∧ (∀ z ∈ ts, 0 ≤ z ∧ z < 256) ∧ (G ≠ 0 → sltR ts = []) ∧ (G = 0 → sltE ts = 0 ∧ sltR ts = sl)) := hid (by
            rw [← hts, ← hG]
            unfold tabR
            by_cases h0 : tabE sl = 0
            · obtain ⟨e1, e2⟩ := HTB.out h0
              rw [if_pos h0]
              have h112 : sl.length ≤ 112 := by
                have h9 := h0
                unfold tabE at h9
                by_cases hbig : 112 < sl.length
                · rw [if_pos hbig] at h9; omega
                · omega
              refine ⟨by rw [tabB_len]; omega, tabB_byte sl, fun h => absurd h0 h, fun _ => ⟨e1, ?_⟩⟩
              unfold sltR
              rw [if_pos e1, e2]
            · rw [if_neg h0]
              exact ⟨by simp, by simp, fun _ => by unfold sltR sltL; simp [cutL, np], fun h => absurd h h0⟩)
          have HCP : Hid (mt ≤ ct ∧ ct ≤ 9223372036854775807) := hid (by
            have h := owns_cap (show w5.ownsRow 0 5 1 (.slice qt mt ct) mt (bv ts) from by have h := ho5; unfold Own at h; rw [hl5] at h; exact h)
            unfold maxLen at h
            omega)
          have HSL := hid (slots_any qt mt ct ts w5 ho5.rd hl5 (by rw [← hl5]; exact HTS.out.1) HCP.out HTS.out.2.1)
          have HG := hid hG
          clear hta ho5 hl5 hf5 hG hts HTA
          go_wp2_with fail
          refine HSL.out.mono ?_
          intro e w6 hua
          obtain ⟨qs, ms, cs, rfl, h1, h2, h3, h4, h5⟩ := hua.one
          obtain ⟨D, hD⟩ : ∃ z, sltE ts = z := ⟨_, rfl⟩
          rw [hD]
          have HD := hid hD
          have HF6 := hid (HF5.out.trans h5 (by simp))
          have HU6 := hid (rv_ofSl h1 h2.symm)
          have HMS := hid h2
          clear hua h1 h2 h3 h4 h5 hD HSL
          go_upto_region 40 with fail
          go_cut [165] (fun v wx => v = .bool false ∧ wx = w6)
          case first =>
            by_cases h0 : G = 0
            · have hd0 : D = 0 := by rw [← HD.out]; exact (HTS.out.2.2.2 h0).1
              have hms : ms = M := by rw [HMS.out, (HTS.out.2.2.2 h0).2, HM.out]
              subst h0
              subst hd0
              subst hms
              go_wp2_with fail
              go_meet
              case rel => exact ⟨by first | rfl | (simp; done), rfl⟩
            · have hcb : (G == 0) = false := by simpa using h0
              go_wp2_with fail
              go_meet
              case rel => exact ⟨rfl, rfl⟩
          obtain ⟨rfl, hwc⟩ := hcut
          have hwr := hwc.symm
          clear hwc
          subst hwr
          go_wp2_with fail
          go_loopw [24] (fun i wx => ∃ k : Nat, k ≤ M ∧ i = .int .i64 (k : Int) ∧ Hid (Frm [] w6 wx)) (fun i _ => M - (intOf i).toNat)
          case atStart => exact ⟨0, Nat.zero_le _, rfl, hid (Frm.refl _ _)⟩
          case round =>
            obtain ⟨k, hk, rfl, hin⟩ := hrel
            have HI3 := hid hin.out
            clear hin
            by_cases hlt3 : k < M
            · have k1 : (k : Int) < (M : Int) := by omega
              by_cases h0 : G = 0
              · have hcb : (G == 0) = true := by simpa using h0
                obtain ⟨v, hv⟩ : ∃ v, sl[k]? = some v := ⟨_, List.getElem?_eq_getElem (by rw [HM.out]; exact hlt3)⟩
                have hvl : (sltR ts)[k]? = some v := by rw [(HTS.out.2.2.2 h0).2]; exact hv
                have hms : (k : Int) < (ms : Int) := by have := (List.getElem?_eq_some_iff.1 hvl).1; have := HMS.out; omega
                obtain ⟨g1, o1, hg1, r0, r1, r2, r3, r4, r5, r6, r7, r8, r9, r10⟩ := rowsSl_at (HU6.out.kept HI3.out (by simp)) hvl
                obtain ⟨g2, o2, hg2, q0, q1, q2, q3, q4, q5, q6, q7, q8, q9, q10⟩ := rowsSl_at (HRT.out _ (HF6.out.trans HI3.out (by simp))) hv
                subst hg1
                subst hg2
                have hne := fun W => neqSl v v W
                rw [decide_eq_true (p := v = v) rfl] at hne
                simp only [Bool.not_true] at hne
                unfold Sl.row at hne
                obtain ⟨u, z, a0, a1, a2, a3, a4, a5, a6, a7, a8⟩ := v
                simp only at hne r0 r1 r2 r3 r4 r5 r6 r7 r8 r9 r10 q0 q1 q2 q3 q4 q5 q6 q7 q8 q9 q10
                clear hv hvl
                go_wp2_with fail
                go_quiet (fail)
                go_wp2_with fail
                go_roundw
                case rel => exact ⟨k + 1, by omega, by go_num, hid (HI3.out.drewN _)⟩
                case measure => first | (simp [intOf]; done) | (simp [intOf]; omega)
              · have hcb : (G == 0) = false := by simpa using h0
                go_wp2_with fail
                first | go_returns | skip
                exact HP.out _ (HF6.out.trans HI3.out (by simp))
            · obtain rfl : k = M := by omega
              go_wp2_with fail
              first | go_returns | skip
              exact HP.out _ (HF6.out.trans HI3.out (by simp))
end
end Go.Proofs.Ytkolbijhekbelaa
