/- FrameCuts: the walk. -/
import Derived.Test.YtignoocdeghiaaaDoorQaz
namespace Go.Proofs.YtignoocdeghiaaaDoor
section
open Go.RowKit Go.Lib
set_option maxRecDepth 100000

def CameQsP (w : World) (p : Option Addr) (len : Nat) : Prop := len = 0 ∨ ∃ g o, p = some ⟨g, o, none⟩ ∧ ∀ i, i < len → ∃ r : Rq, (∀ k v, r.arr.toList[k]? = some v → w.cell? ⟨g, o + i * 10 + k, none⟩ = some v) ∧ Came w r.dp r.dl r.dc ∧ r.dl ≤ 1048576
set_option maxHeartbeats 51200000 in
theorem cutsLaw_any (b0 : Option Addr) (l0 c0 : Nat) (b1 : Option Addr) (l1 c1 : Nat) (W : World) (hQ : CameQs W b0 l0 c0) (hI : CameIU W b1 l1 c1) (hpr : Primes W) :
    Calls Tryd.prog 8 #[.slice b0 l0 c0, .slice b1 l1 c1] W fun e w' => e = .returned (.bool true) ∧ Frm [] W w' := by
  obtain ⟨PO, hPO⟩ : ∃ PO : Ending → World → Prop, (fun e w' => e = .returned (.bool true) ∧ Frm [] W w') = PO := ⟨_, rfl⟩
  rw [hPO]
  have HP : Hid (∀ w', Frm [] W w' → PO (.returned (.bool true)) w') := hid (fun w' h => by rw [← hPO]; exact ⟨rfl, h⟩)
  have HAW := hid (awakeF_any W hpr)
  have HPR := hid hpr
  have HQQ : Hid (CameQsP W b0 l0) := hid hQ.2.2.2
  have HII := hid hI.2.2.2
  have hl0 : l0 ≤ 1048576 := hQ.2.2.1
  have hl1 : l1 ≤ 1048576 := hI.2.2.1
  clear hPO hQ hI hpr
  go_enter Tryd.func8, Tryd.ntmps8
  go_wp2_with fail
  refine HAW.out.mono ?_
  rintro e w1 ⟨rfl, hf1⟩
  have HF1 := hid hf1
  clear hf1 HAW
  go_wp2_with fail
  refine (newLine_any w1).mono ?_
  rintro e w2 ⟨lb, rfl, hl2, hf2, hlb⟩
  have HLN := hid hl2
  have HF2 : Hid (Frm [] W w2) := hid (HF1.out.trans hf2 (by simp))
  have HLB : Hid (W.heap.size ≤ lb ∧ lb < w2.heap.size) := hid ⟨by have := HF1.out.size; omega, lt_of_heap hl2.row⟩
  have HS0 : Hid (SentS W w2 w2 none 0 0 none 0 0 []) := hid ⟨Frm.refl _ _, Own.nil _ _, rfl, ⟨rfl, Or.inl ⟨rfl, rfl⟩⟩, rfl, by simp, by simp [blk], by simp [blk], by simp [blk], by omega⟩
  clear hl2 hf2 hlb HF1
  go_wp2_with fail
  go_loopw [7, 8, 9] (fun s7 s8 s9 wr => ∃ (t : Nat) (pa : Option Addr) (A ca : Nat) (ps : Option Addr) (S cs : Nat) (l : List (Rq × List Int)), t ≤ l0 ∧ s9 = .int .i64 (t : Int) ∧ s7 = .slice pa A ca ∧ s8 = .slice ps S cs ∧ S ≤ t ∧ Hid (SentS W w2 wr pa A ca ps S cs l)) (fun _ _ s9 _ => l0 - (intOf s9).toNat)
  case atStart => exact ⟨0, none, 0, 0, none, 0, 0, [], Nat.zero_le _, rfl, rfl, rfl, Nat.le_refl _, HS0⟩
  case round =>
    clear HS0
    obtain ⟨t, pa, A, ca, ps, S, cs, l, ht, rfl, rfl, rfl, hSt, hin⟩ := hrel
    have HIN := hid hin.out
    clear hin
    by_cases hlt : t < l0
    case pos =>
      have t1 : (t : Int) < (l0 : Int) := by omega
      obtain ⟨g, o, rfl, hcells⟩ : ∃ g o, b0 = some ⟨g, o, none⟩ ∧ ∀ i, i < l0 → ∃ r : Rq, (∀ k v, r.arr.toList[k]? = some v → W.cell? ⟨g, o + i * 10 + k, none⟩ = some v) ∧ Came W r.dp r.dl r.dc ∧ r.dl ≤ 1048576 := by
        rcases HQQ.out with h | h
        · omega
        · exact h
      obtain ⟨r, hrow, ⟨ds, hdl, hdr, hdz, hdn, hdc, hdm⟩, hd1⟩ := hcells t hlt
      have HROW : Hid (∀ V, Frm [] W V → ∀ k v, r.arr.toList[k]? = some v → V.cell? ⟨g, o + t * 10 + k, none⟩ = some v) := hid (fun V hf k v hv => (hf.cell (p := ⟨g, o + t * 10 + k, none⟩) (World.block_lt_of_cell? _ _ (hrow k v hv)) (by simp)).trans (hrow k v hv))
      have HDR := hid hdr
      have HDL := hid hdl
      have HDZ := hid hdz
      have HRQ := hid (fun V (hf : Frm [] W V) => request_any r ds V (hdr.kept hf (by simp)) hdl hdn hdz (HPR.out.kept hf))
      have HWF := hid (HF2.out.trans HIN.out.fr (by simp))
      have HOK : Hid (MayQ r → OkQ W (r, ds)) := hid (fun hm => ⟨hm, hdl, hdr, hdz⟩)
      have HCAP : Hid (∀ V, Frm [] W V → ∀ k v, r.arr.toList[k]? = some v → V.cell? ⟨g, o + t * 10 + k, none⟩ = some v) := HROW
      by_cases hmay : MayQ r
      case neg =>
        have HE : Hid (errQ r ≠ 0 ∧ errQ r = 230) := hid (by unfold errQ; rw [if_neg hmay]; omega)
        clear hmay hrow hdl hdr hdz hdn HCAP HOK hcells
        obtain ⟨ses, id, verb, name, item, other, path, at_, many, dp, dl, dc⟩ := r
        unfold Rq.arr at HROW HRQ
        simp only at HROW HRQ
        have hcell := HROW.out wr HWF.out
        have z0 : wr.cell? ⟨g, o + t * 10, none⟩ = some (.int .i64 ses) := hcell 0 _ rfl
        have z1 : wr.cell? ⟨g, o + t * 10 + 1, none⟩ = some (.int .i64 id) := hcell 1 _ rfl
        have z2 : wr.cell? ⟨g, o + t * 10 + 2, none⟩ = some (.int .i64 verb) := hcell 2 _ rfl
        have z3 : wr.cell? ⟨g, o + t * 10 + 3, none⟩ = some (.string name) := hcell 3 _ rfl
        have z4 : wr.cell? ⟨g, o + t * 10 + 4, none⟩ = some (.string item) := hcell 4 _ rfl
        have z5 : wr.cell? ⟨g, o + t * 10 + 5, none⟩ = some (.string other) := hcell 5 _ rfl
        have z6 : wr.cell? ⟨g, o + t * 10 + 6, none⟩ = some (.string path) := hcell 6 _ rfl
        have z7 : wr.cell? ⟨g, o + t * 10 + 7, none⟩ = some (.int .i64 at_) := hcell 7 _ rfl
        have z8 : wr.cell? ⟨g, o + t * 10 + 8, none⟩ = some (.int .i64 many) := hcell 8 _ rfl
        have z9 : wr.cell? ⟨g, o + t * 10 + 9, none⟩ = some (.slice dp dl dc) := hcell 9 _ rfl
        clear hcell
        go_wp2_with fail
        refine (HRQ.out wr HWF.out).mono ?_
        rintro e w3 ⟨hf3, ⟨_, rfl⟩ | ⟨h0, _⟩⟩
        case inr => exact absurd h0 HE.out.1
        rw [HE.out.2]
        have HNX : Hid (SentS W w2 w3 pa A ca ps S cs l) := hid ⟨HIN.out.fr.trans hf3 (by simp), HIN.out.own.kept hf3 (by simp), HIN.out.len, ownsRow_kept HIN.out.snt hf3 (by simp), HIN.out.sl, HIN.out.ok, fun k hk => ⟨(HIN.out.na k hk).1, Nat.lt_of_lt_of_le (HIN.out.na k hk).2 hf3.size⟩, fun k hk => ⟨(HIN.out.ns k hk).1, Nat.lt_of_lt_of_le (HIN.out.ns k hk).2 hf3.size⟩, HIN.out.ap, HIN.out.sz⟩
        clear z0 z1 z2 z3 z4 z5 z6 z7 z8 z9 hf3
        go_wp2_with fail
        go_roundw
        case rel => exact ⟨t + 1, pa, A, ca, ps, S, cs, l, by omega, by go_num, rfl, rfl, by omega, HNX⟩
        case measure => first | (simp [intOf]; done) | (simp [intOf]; omega)
      have HE : Hid (errQ r = 0) := hid (by unfold errQ; rw [if_pos hmay])
      have HOQ := hid (HOK.out hmay)
      have HIQ := hid (inQ_len hmay hdl)
      clear hmay hrow hdl hdr hdz hdn HCAP HOK hcells
      have HAR : Hid (r.arr.toList = r.arr.toList) := hid rfl
      obtain ⟨FB, hFB⟩ : ∃ FB, frm (inQ r ds) = FB := ⟨_, rfl⟩
      have HFL : Hid (FB.length ≤ 3112) := hid (by rw [← hFB, frm_len]; have := HIQ.out; omega)
      have HFE : Hid (frmsQ (l ++ [(r, ds)]) = frmsQ l ++ [FB]) := hid (by unfold frmsQ; rw [List.map_append, List.map_singleton, hFB])
      have HRE : Hid (rowsRq (l ++ [(r, ds)]) = rowsRq l ++ r.arr.toList) := hid (by rw [rowsRq_app]; unfold rowsRq; simp)
      have HOKS : Hid (∀ x ∈ l ++ [(r, ds)], OkQ W x) := hid (fun x hx => by
        rcases List.mem_append.1 hx with h | h
        · exact HIN.out.ok x h
        · rw [List.mem_singleton] at h; subst h; exact HOQ.out)
      rw [hFB] at HRQ
      clear hFB HAR HIQ HOQ
      obtain ⟨X, hX⟩ : ∃ X : Rq × List Int, (r, ds) = X := ⟨_, rfl⟩
      rw [hX] at HFE HRE HOKS
      clear hX
      obtain ⟨ses, id, verb, name, item, other, path, at_, many, dp, dl, dc⟩ := r
      unfold Rq.arr at HROW HRQ HRE
      simp only at HROW HRQ HRE
      have hcell := HROW.out wr HWF.out
      have z0 : wr.cell? ⟨g, o + t * 10, none⟩ = some (.int .i64 ses) := hcell 0 _ rfl
      have z1 : wr.cell? ⟨g, o + t * 10 + 1, none⟩ = some (.int .i64 id) := hcell 1 _ rfl
      have z2 : wr.cell? ⟨g, o + t * 10 + 2, none⟩ = some (.int .i64 verb) := hcell 2 _ rfl
      have z3 : wr.cell? ⟨g, o + t * 10 + 3, none⟩ = some (.string name) := hcell 3 _ rfl
      have z4 : wr.cell? ⟨g, o + t * 10 + 4, none⟩ = some (.string item) := hcell 4 _ rfl
      have z5 : wr.cell? ⟨g, o + t * 10 + 5, none⟩ = some (.string other) := hcell 5 _ rfl
      have z6 : wr.cell? ⟨g, o + t * 10 + 6, none⟩ = some (.string path) := hcell 6 _ rfl
      have z7 : wr.cell? ⟨g, o + t * 10 + 7, none⟩ = some (.int .i64 at_) := hcell 7 _ rfl
      have z8 : wr.cell? ⟨g, o + t * 10 + 8, none⟩ = some (.int .i64 many) := hcell 8 _ rfl
      have z9 : wr.cell? ⟨g, o + t * 10 + 9, none⟩ = some (.slice dp dl dc) := hcell 9 _ rfl
      clear hcell
      go_wp2_with fail
      refine (HRQ.out wr HWF.out).mono ?_
      rintro e w3 ⟨hf3, ⟨h0, _⟩ | ⟨_, gb, nb, rfl, hnb, hrow3, hgb⟩⟩
      case inl => exact absurd HE.out h0
      have HF3 := hid hf3
      have HNB := hid hnb
      have HR3 : Hid (Rd w3 (some ⟨gb, 0, none⟩) FB) := hid ((own_of_block (E := 5) hrow3 (by have := HFL.out; unfold maxLen; omega)).rd)
      have HO3 := hid (HIN.out.own.kept hf3 (by simp))
      have hsz := HIN.out.sz
      have hnb3 : nb ≤ 3112 := by rw [hnb]; exact HFL.out
      clear hf3 hnb hrow3 hgb z0 z1 z2 z3 z4 z5 z6 z7 z8 z9
      go_wp2_with (at_builtin; refine wpList_appB rfl _ _ 22 rfl 5 Tryd.underlying22 infoB pa A ca (frmsQ l).flatten rfl HIN.out.len.symm (by rw [HIN.out.len]; exact HO3.out) (some ⟨gb, 0, none⟩) nb nb FB rfl HNB.out (fun _ h => by cases h) HR3.out (by rw [HIN.out.len, ← HNB.out]; omega) ?_)
      intro xs pa2 ca2 w4 hxs ho4 hf4 hb4
      have HXE : Hid (xs = (frmsQ (l ++ [X])).flatten) := hid (by rw [hxs.out, HFE.out, List.flatten_append, List.flatten_singleton])
      obtain ⟨A2, hA2⟩ : ∃ z, xs.length = z := ⟨_, rfl⟩
      have HAA : Hid (A2 = A + nb) := hid (by rw [← hA2, hxs.out, List.length_append, HIN.out.len, HNB.out])
      have ho := ho4.out
      rw [hA2] at ho ⊢
      have HA2 := hid hA2
      have HO4 : Hid (Own w4 5 (.slice pa2 A2 ca2) xs) := hid ho
      have HF4 : Hid (Frm (blk pa) wr w4) := hid ((HF3.out.mono (by simp)).trans hf4.out (fun i hi _ => hi))
      have HB4 : Hid (∀ k ∈ blk pa2, (k ∈ blk pa ∨ wr.heap.size ≤ k) ∧ k < w4.heap.size) := hid (fun k hk => ⟨(hb4.out k hk).imp (fun h => h) (fun h => Nat.le_trans HF3.out.size h), own_lowF ho k hk⟩)
      have HW4 : Hid (Frm [] W w4) := hid (HWF.out.trans HF4.out (fun i hi hl => by have := (HIN.out.na i hi).1; have := HF2.out.size; omega))
      have hcell := HROW.out w4 HW4.out
      clear hxs ho4 hf4 hb4 ho hA2
      have z0 : w4.cell? ⟨g, o + t * 10, none⟩ = some (.int .i64 ses) := hcell 0 _ rfl
      have z1 : w4.cell? ⟨g, o + t * 10 + 1, none⟩ = some (.int .i64 id) := hcell 1 _ rfl
      have z2 : w4.cell? ⟨g, o + t * 10 + 2, none⟩ = some (.int .i64 verb) := hcell 2 _ rfl
      have z3 : w4.cell? ⟨g, o + t * 10 + 3, none⟩ = some (.string name) := hcell 3 _ rfl
      have z4 : w4.cell? ⟨g, o + t * 10 + 4, none⟩ = some (.string item) := hcell 4 _ rfl
      have z5 : w4.cell? ⟨g, o + t * 10 + 5, none⟩ = some (.string other) := hcell 5 _ rfl
      have z6 : w4.cell? ⟨g, o + t * 10 + 6, none⟩ = some (.string path) := hcell 6 _ rfl
      have z7 : w4.cell? ⟨g, o + t * 10 + 7, none⟩ = some (.int .i64 at_) := hcell 7 _ rfl
      have z8 : w4.cell? ⟨g, o + t * 10 + 8, none⟩ = some (.int .i64 many) := hcell 8 _ rfl
      have z9 : w4.cell? ⟨g, o + t * 10 + 9, none⟩ = some (.slice dp dl dc) := hcell 9 _ rfl
      clear hcell
      have HA := hid ((Frm.refl [] w4).alloc (.cells #[.int .i64 ses, .int .i64 id, .int .i64 verb, .string name, .string item, .string other, .string path, .int .i64 at_, .int .i64 many, .slice dp dl dc] 24))
      have HRV := hid (rv_block (heap_alloc_new w4 (.cells #[.int .i64 ses, .int .i64 id, .int .i64 verb, .string name, .string item, .string other, .string path, .int .i64 at_, .int .i64 many, .slice dp dl dc] 24)))
      have HS4 := hid (ownsRow_kept HIN.out.snt HF4.out (fun k hk hm => HIN.out.ap k hm hk))
      have HOW := hid (ownsRow_kept HS4.out HA.out (by simp))
      go_wp2_with (at_builtin; refine wpList_appV rfl _ _ 57 rfl 24 10 128 _ Tryd.underlying57 infoRq rfl (by decide) ps S cs (rowsRq l) rfl HOW.out (some ⟨w4.heap.size, 0, none⟩) 1 1 [.int .i64 ses, .int .i64 id, .int .i64 verb, .string name, .string item, .string other, .string path, .int .i64 at_, .int .i64 many, .slice dp dl dc] rfl rfl (by simp) HRV.out (by intro u hu; simp at hu; rcases hu with rfl | rfl | rfl | rfl | rfl | rfl | rfl | rfl | rfl | rfl <;> rfl) (by unfold maxLen; omega) (by omega) ?_)
      intro ps2 cs2 w6 ho6 hf6 hb6
      have HNX : Hid (SentS W w2 w6 pa2 A2 ca2 ps2 (S + 1) cs2 (l ++ [X])) := hid (by
        have h1 := HF4.out.size
        have h2 := HA.out.size
        have h3 := hf6.out.size
        have hfr : Frm (blk ps) w4 w6 := (HA.out.mono (by simp)).trans hf6.out (fun i hi _ => hi)
        have hpp : ∀ k ∈ blk pa2, k ∉ blk ps := fun k hk hm => (HB4.out k hk).1.elim (fun h => HIN.out.ap k h hm) (fun h => by have := (HIN.out.ns k hm).2; omega)
        refine ⟨(HIN.out.fr.trans HF4.out (fun i hi hl => by have := (HIN.out.na i hi).1; omega)).trans hfr (fun i hi hl => by have := (HIN.out.ns i hi).1; omega), ?_, by rw [← HXE.out, HA2.out], ?_, by rw [List.length_append, HIN.out.sl]; rfl, HOKS.out, fun k hk => ⟨(HB4.out k hk).1.elim (fun h => (HIN.out.na k h).1) (fun h => by have := HIN.out.fr.size; omega), by have := (HB4.out k hk).2; omega⟩, fun k hk => ⟨?_, ownsRow_low ho6.out k hk⟩, fun k hk hm => ?_, by have := HAA.out; omega⟩
        · rw [← HXE.out]; exact HO4.out.kept hfr (by rw [own_blk]; exact hpp)
        · rw [HRE.out]; exact ho6.out
        · rcases hb6.out k hk with h | h
          · exact (HIN.out.ns k h).1
          · have := HIN.out.fr.size; omega
        · rcases hb6.out k hm with h | h
          · exact hpp k hk h
          · have := (HB4.out k hk).2; omega)
      clear z0 z1 z2 z3 z4 z5 z6 z7 z8 z9 ho6 hf6 hb6 HOW HS4 HRV HA
      go_wp2_with fail
      go_roundw
      case rel => exact ⟨t + 1, pa2, A2, ca2, ps2, S + 1, cs2, l ++ [X], by omega, by go_num, rfl, rfl, by omega, HNX⟩
      case measure => first | (simp [intOf]; done) | (simp [intOf]; omega)
    have HSS := hid HIN.out
    obtain rfl : t = l0 := by omega
    have hSl : S ≤ 1048576 := by omega
    have hA33 : A ≤ 4294967296 := by have := HIN.out.sz; omega
    clear HIN hlt hSt ht
    generalize wr = w0 at *
    obtain ⟨F, hF⟩ : ∃ F, frmsQ l = F := ⟨_, rfl⟩
    have HG : Hid (∀ f ∈ F, GoodF f) := hid (by rw [← hF]; exact frmsQ_good HSS.out.ok)
    have HFZ : Hid (∀ z ∈ F.flatten, 0 ≤ z ∧ z < 256) := hid (fun z hz => by
      obtain ⟨f, hf, hz⟩ := List.mem_flatten.1 hz
      rw [← hF] at hf
      exact frmsQ_bd HSS.out.ok f hf z hz)
    have HFN : Hid (F.length = S) := hid (by rw [← hF, ← HSS.out.sl]; unfold frmsQ; rw [List.length_map])
    have HFQ := hid hF
    have HSS2 : Hid (Own w0 5 (.slice pa A ca) F.flatten ∧ F.flatten.length = A ∧ w0.ownsRow 0 24 10 (.slice ps S cs) S (rowsRq l)) := hid (by rw [← hF]; exact ⟨HSS.out.own, HSS.out.len, HSS.out.snt⟩)
    have HNA : Hid (∀ k ∈ blk pa, lb < k) := hid (fun k hk => by have := (HSS.out.na k hk).1; have := HLB.out.2; omega)
    have HNS : Hid (∀ k ∈ blk ps, lb < k) := hid (fun k hk => by have := (HSS.out.ns k hk).1; have := HLB.out.2; omega)
    have hca := (own_capD HSS2.out.1).2
    have hcam := own_cpD HSS2.out.1
    have HWW : Hid (Frm [] W w0) := hid (HF2.out.trans HSS.out.fr (by simp))
    have HOKX := hid HSS.out.ok
    have HSLX := hid HSS.out.sl
    have HC0 : Hid (CutS w0 w0 lb none 0 0 none 0 0 [] F 0 0) := hid ⟨Frm.refl _ _, by simpa using HLN.out.k0 HSS.out.fr, RdK.nil _, by simp, ⟨Nat.zero_le _, by simp⟩, by simp [blk], by simp, by simp [ft], Nat.lt_of_lt_of_le HLB.out.2 HSS.out.fr.size, fun h => by
      cases hFF : F with
      | nil => rfl
      | cons f F' =>
        have := (HG.out f (by rw [hFF]; simp)).1
        rw [hFF, List.flatten_cons, List.length_append] at h
        omega⟩
    clear hF HSS HLN HQQ
    go_wp2_with fail
    go_loopw [12, 13, 14] (fun s12 s13 s14 wr => ∃ (t : Nat) (p : Option Addr) (n c : Nat) (qg : Option Addr) (sg cg : Nat) (lg : List Bk) (k a : Nat), t ≤ l1 + 1 ∧ s14 = .int .i64 (t : Int) ∧ s13 = .int .i64 (a : Int) ∧ s12 = .slice qg sg cg ∧ a ≤ A ∧ sg ≤ S ∧ Hid (t = l1 + 1 → a = A) ∧ Hid (CutS w0 wr lb p n c qg sg cg lg F k a)) (fun _ _ s14 _ => l1 + 1 - (intOf s14).toNat)
    case atStart => exact ⟨0, none, 0, 0, none, 0, 0, [], 0, 0, Nat.zero_le _, rfl, rfl, rfl, Nat.zero_le _, Nat.zero_le _, hid (fun h => by omega), HC0⟩
    case round =>
      clear HC0
      obtain ⟨t, p, n, c, qg, sg, cg, lg, k, a, ht, rfl, rfl, rfl, haA, hsgS, hend, hin⟩ := hrel
      have HIN := hid hin.out
      have HEND := hid hend.out
      clear hin hend
      by_cases hlt : t ≤ l1
      case pos =>
        have t1 : (t : Int) ≤ (l1 : Int) := by omega
        by_cases hlt2 : t < l1
        case pos =>
          have t2 : (t : Int) < (l1 : Int) := by omega
          obtain ⟨g1, o1, hb1e, hcs⟩ : ∃ g o, b1 = some ⟨g, o, none⟩ ∧ ∀ i, i < l1 → ∃ z, W.cell? ⟨g, o + i, none⟩ = some (.int .i64 z) ∧ -9223372036854775808 ≤ z ∧ z ≤ 9223372036854775807 := by
            rcases HII.out with h | h
            · omega
            · exact h
          subst hb1e
          obtain ⟨z, hz, hz1, hz2⟩ := hcs t hlt2
          have q0 : wr.cell? ⟨g1, o1 + t, none⟩ = some (.int .i64 z) := ((HWW.out.trans HIN.out.fr (fun i hi hl => by rw [List.mem_singleton] at hi; have := HLB.out.1; omega)).cell (p := ⟨g1, o1 + t, none⟩) (World.block_lt_of_cell? _ _ hz) (by simp)).trans hz
          have HPK := hid (pickF_any z ((A : Int) - (a : Int) + 1) wr (by omega) (by omega) hz1 hz2)
          clear hz hcs
          go_wp2_with fail
          refine HPK.out.mono ?_
          rintro e v0 ⟨⟨kk, hkk, rfl⟩, hv0⟩
          subst v0
          clear HPK q0
          obtain ⟨pp, hs1, hs2, hrp, hkp⟩ := slice_midF pa F.flatten A ca a (a + kk) HSS2.out.2.1 (by omega) (by omega) hca.1 wr (HSS2.out.1.kept HIN.out.fr (by rw [own_blk]; exact fun k hk hm => by rw [List.mem_singleton] at hm; have := HNA.out k hk; omega)).rd
          obtain ⟨m, hm⟩ : ∃ z, (a + kk) - a = z := ⟨_, rfl⟩
          rw [hm] at hs1 hs2 hrp
          rw [show ((a + kk : Nat) : Int) = (a : Int) + (kk : Int) by omega] at hs1 hs2
          have hkA : a + kk ≤ A := by omega
          have HPL : Hid (((F.flatten.drop a).take m).length = m) := hid (by rw [List.length_take, List.length_drop, HSS2.out.2.1]; omega)
          have HMO := hid (cut_more (F := F) (k := k) (a := a) (b := (a + kk)) HIN.out.kk.2 (by omega))
          rw [hm] at HMO
          have HGD := hid (feedR_goods (F.drop k) (fun f hf => HG.out f (List.mem_of_mem_drop hf)) ((a + kk) - (F.take k).flatten.length))
          have hnA : n ≤ A := by rw [← HIN.out.ln.wt.ln, List.length_take]; omega
          have hfd := feed_any wr lb p n c _ HIN.out.ln pp m (ca - a) ((F.flatten.drop a).take m) hrp HPL.out (fun h => by
            rcases hrp with h1 | ⟨g, o, h1, _⟩
            · have h2 := HPL.out; rw [h1] at h2; simpa using h2.symm
            · rw [h] at h1; cases h1) (by rw [HMO.out]; exact fun z hz => HFZ.out z (by
              obtain ⟨f, hf, hz⟩ := List.mem_flatten.1 (List.mem_of_mem_take hz)
              exact List.mem_flatten.2 ⟨f, List.mem_of_mem_drop hf, hz⟩)) (by omega)
          rw [HMO.out] at hfd
          have HFD := hid hfd
          clear hfd hrp hkp
          go_wp2_with fail
          refine HFD.out.mono ?_
          rintro e v1 ⟨qf, s, cf, ls, p2, n2, c2, rfl, how, hls, hnk, hln, hf1, hap, hax, haq⟩
          obtain ⟨k2, hk2, hg2, hl2, hen⟩ := HGD.out
          rw [hg2] at hls hln ⊢
          simp only at hls hln ⊢
          have hsb : s ≤ 1048576 := by
            have h1 := congrArg List.length hls
            rw [List.length_map, how.ln, List.length_take, List.length_drop] at h1
            have := HFN.out
            omega
          have HOW := hid how
          have HQG := hid (ownsRow_kept HIN.out.rd.ow hf1 (fun k hk hm => by
            have h1 := HIN.out.nq k hk
            rcases List.mem_cons.1 hm with h2 | h2
            · have := HIN.out.lo; omega
            · exact h1.2.2 h2))
          have HNXF : Hid (∀ q2 cg2 v2, v2.ownsRow 0 22 1 (.slice q2 (sg + s) cg2) (sg + s) (rowsK lg ++ rowsK ls) → Frm (blk qg) v1 v2 → (∀ i ∈ blk q2, i ∈ blk qg ∨ v1.heap.size ≤ i) → CutS w0 v2 lb p2 n2 c2 q2 (sg + s) cg2 (lg ++ ls) F (k + k2) (a + kk)) := hid (fun q2 cg2 v2 h1 h2 h3 => HIN.out.next HOW.out hls hnk hln hf1 hap hax hk2 hl2 hen h1 h2 h3 (by omega))
          have hsg2 : sg + s ≤ S := by
            have h1 := congrArg List.length hls
            rw [List.length_map, how.ln, List.length_take, List.length_drop] at h1
            have h2 := HIN.out.rd.ln
            have h3 := congrArg List.length HIN.out.bs
            rw [List.length_map, List.length_take] at h3
            have := HFN.out
            have := HIN.out.kk.1
            rw [List.length_drop] at hk2
            omega
          clear how hls hnk hln hf1 hap hax haq hk2 hg2 hl2 hen HFD HGD HMO
          go_wp2_with (at_builtin; refine wpList_appV rfl _ _ 46 rfl 22 1 24 _ Tryd.underlying46 infoK rfl (by decide) qg sg cg (rowsK lg) rfl HQG.out qf s cf (rowsK ls) rfl (by rw [rowsK_len, HOW.out.ln, Nat.mul_one]) (fun _ h => by
            rcases HOW.out.ow.2 with ⟨he, _⟩ | ⟨g, c', cur, he, _⟩
            · simp only [Value.slice.injEq] at he; exact he.2.2
            · simp only [Value.slice.injEq] at he; rw [h] at he; cases he.1) (rv_ofK HOW.out.ow HOW.out.ln) (by intro u hu; unfold rowsK at hu; obtain ⟨x, _, rfl⟩ := List.mem_map.1 hu; rfl) (by unfold maxLen; omega) (by omega) ?_)
          intro q3 cg3 v2 ho3 hf3 hb3
          have HNX := hid (HNXF.out q3 cg3 v2 ho3.out hf3.out hb3.out)
          clear ho3 hf3 hb3 HNXF HQG hs1 hs2
          go_wp2_with fail
          go_roundw
          case rel => exact ⟨t + 1, p2, n2, c2, q3, sg + s, cg3, lg ++ ls, k + k2, (a + kk), by omega, by go_num, by first | rfl | go_num, rfl, by omega, hsg2, hid (fun h => by omega), HNX⟩
          case measure => first | (simp [intOf]; done) | (simp [intOf]; omega)
        have t2 : ¬ (t : Int) < (l1 : Int) := by omega
        obtain ⟨pp, hs1, hs2, hrp, hkp⟩ := slice_midF pa F.flatten A ca a A HSS2.out.2.1 (by omega) (by omega) hca.1 wr (HSS2.out.1.kept HIN.out.fr (by rw [own_blk]; exact fun k hk hm => by rw [List.mem_singleton] at hm; have := HNA.out k hk; omega)).rd
        obtain ⟨m, hm⟩ : ∃ z, A - a = z := ⟨_, rfl⟩
        rw [hm] at hs1 hs2 hrp
        have hkA : True := trivial
        have HPL : Hid (((F.flatten.drop a).take m).length = m) := hid (by rw [List.length_take, List.length_drop, HSS2.out.2.1]; omega)
        have HMO := hid (cut_more (F := F) (k := k) (a := a) (b := A) HIN.out.kk.2 (by omega))
        rw [hm] at HMO
        have HGD := hid (feedR_goods (F.drop k) (fun f hf => HG.out f (List.mem_of_mem_drop hf)) (A - (F.take k).flatten.length))
        have hnA : n ≤ A := by rw [← HIN.out.ln.wt.ln, List.length_take]; omega
        have hfd := feed_any wr lb p n c _ HIN.out.ln pp m (ca - a) ((F.flatten.drop a).take m) hrp HPL.out (fun h => by
          rcases hrp with h1 | ⟨g, o, h1, _⟩
          · have h2 := HPL.out; rw [h1] at h2; simpa using h2.symm
          · rw [h] at h1; cases h1) (by rw [HMO.out]; exact fun z hz => HFZ.out z (by
            obtain ⟨f, hf, hz⟩ := List.mem_flatten.1 (List.mem_of_mem_take hz)
            exact List.mem_flatten.2 ⟨f, List.mem_of_mem_drop hf, hz⟩)) (by omega)
        rw [HMO.out] at hfd
        have HFD := hid hfd
        clear hfd hrp hkp
        go_wp2_with fail
        refine HFD.out.mono ?_
        rintro e v1 ⟨qf, s, cf, ls, p2, n2, c2, rfl, how, hls, hnk, hln, hf1, hap, hax, haq⟩
        obtain ⟨k2, hk2, hg2, hl2, hen⟩ := HGD.out
        rw [hg2] at hls hln ⊢
        simp only at hls hln ⊢
        have hsb : s ≤ 1048576 := by
          have h1 := congrArg List.length hls
          rw [List.length_map, how.ln, List.length_take, List.length_drop] at h1
          have := HFN.out
          omega
        have HOW := hid how
        have HQG := hid (ownsRow_kept HIN.out.rd.ow hf1 (fun k hk hm => by
          have h1 := HIN.out.nq k hk
          rcases List.mem_cons.1 hm with h2 | h2
          · have := HIN.out.lo; omega
          · exact h1.2.2 h2))
        have HNXF : Hid (∀ q2 cg2 v2, v2.ownsRow 0 22 1 (.slice q2 (sg + s) cg2) (sg + s) (rowsK lg ++ rowsK ls) → Frm (blk qg) v1 v2 → (∀ i ∈ blk q2, i ∈ blk qg ∨ v1.heap.size ≤ i) → CutS w0 v2 lb p2 n2 c2 q2 (sg + s) cg2 (lg ++ ls) F (k + k2) A) := hid (fun q2 cg2 v2 h1 h2 h3 => HIN.out.next HOW.out hls hnk hln hf1 hap hax hk2 hl2 hen h1 h2 h3 (by omega))
        have hsg2 : sg + s ≤ S := by
          have h1 := congrArg List.length hls
          rw [List.length_map, how.ln, List.length_take, List.length_drop] at h1
          have h2 := HIN.out.rd.ln
          have h3 := congrArg List.length HIN.out.bs
          rw [List.length_map, List.length_take] at h3
          have := HFN.out
          have := HIN.out.kk.1
          rw [List.length_drop] at hk2
          omega
        clear how hls hnk hln hf1 hap hax haq hk2 hg2 hl2 hen HFD HGD HMO
        go_wp2_with (at_builtin; refine wpList_appV rfl _ _ 46 rfl 22 1 24 _ Tryd.underlying46 infoK rfl (by decide) qg sg cg (rowsK lg) rfl HQG.out qf s cf (rowsK ls) rfl (by rw [rowsK_len, HOW.out.ln, Nat.mul_one]) (fun _ h => by
          rcases HOW.out.ow.2 with ⟨he, _⟩ | ⟨g, c', cur, he, _⟩
          · simp only [Value.slice.injEq] at he; exact he.2.2
          · simp only [Value.slice.injEq] at he; rw [h] at he; cases he.1) (rv_ofK HOW.out.ow HOW.out.ln) (by intro u hu; unfold rowsK at hu; obtain ⟨x, _, rfl⟩ := List.mem_map.1 hu; rfl) (by unfold maxLen; omega) (by omega) ?_)
        intro q3 cg3 v2 ho3 hf3 hb3
        have HNX := hid (HNXF.out q3 cg3 v2 ho3.out hf3.out hb3.out)
        clear ho3 hf3 hb3 HNXF HQG hs1 hs2
        go_wp2_with fail
        go_roundw
        case rel => exact ⟨t + 1, p2, n2, c2, q3, sg + s, cg3, lg ++ ls, k + k2, A, by omega, by go_num, by first | rfl | go_num, rfl, by omega, hsg2, hid (fun _ => rfl), HNX⟩
        case measure => first | (simp [intOf]; done) | (simp [intOf]; omega)
      obtain rfl : t = l1 + 1 := by omega
      have haE := HEND.out rfl
      subst haE
      have hkF : k = F.length := HIN.out.en (by rw [HSS2.out.2.1]; exact Nat.le_refl _)
      have hsS : sg = S := by
        have h2 := HIN.out.rd.ln
        have h3 := congrArg List.length HIN.out.bs
        rw [List.length_map, List.length_take] at h3
        have := HFN.out
        omega
      subst hsS
      have HBS : Hid (lg.map Bk.bs = F) := hid (by rw [HIN.out.bs, hkF, List.take_of_length_le (Nat.le_refl _)])
      have hln := HIN.out.ln
      rw [hkF, List.drop_eq_nil_of_le (Nat.le_refl _), List.flatten_nil, List.take_nil] at hln
      obtain rfl : n = 0 := by have := hln.wt.ln; simpa using this.symm
      have HRD := hid HIN.out.rd
      have HSN := hid (ownsRow_kept HSS2.out.2.2 HIN.out.fr (fun k hk hm => by rw [List.mem_singleton] at hm; have := HNS.out k hk; omega))
      have HWR : Hid (Frm [] W wr) := hid (HWW.out.trans HIN.out.fr (fun i hi hl => by rw [List.mem_singleton] at hi; have := HLB.out.1; omega))
      have HLL := hid (lineLeft_any wr lb p 0 c [] hln)
      have HFQ2 : Hid (frmsQ l = F) := hid HFQ.out
      clear HIN HEND hln hkF ht haA hsgS hlt HSS2 HWW HII HLB HNA HNS HG HFZ hca hcam
      generalize wr = w5 at *
      go_wp2_with fail
      refine HLL.out.mono ?_
      rintro e w6 ⟨rfl, hw6⟩
      subst w6
      clear HLL
      go_wp2_with fail
      go_loopw [18] (fun i wr => ∃ t : Nat, t ≤ sg ∧ i = .int .i64 (t : Int) ∧ Hid (Frm [] w5 wr)) (fun i _ => sg - (intOf i).toNat)
      case atStart => exact ⟨0, Nat.zero_le _, rfl, hid (Frm.refl _ _)⟩
      case round =>
        obtain ⟨t, ht, rfl, hin⟩ := hrel
        have HIN := hid hin.out
        clear hin
        by_cases hlt : t < sg
        case neg =>
          obtain rfl : t = sg := by omega
          go_wp2_with fail
          first | go_returns | skip
          exact HP.out _ (HWR.out.trans HIN.out (by simp))
        have t1 : (t : Int) < (sg : Int) := by omega
        obtain ⟨X, hX⟩ : ∃ X, l[t]? = some X := ⟨_, List.getElem?_eq_getElem (by rw [HSLX.out]; exact hlt)⟩
        obtain ⟨y, hy⟩ : ∃ y, lg[t]? = some y := ⟨_, List.getElem?_eq_getElem (by rw [HRD.out.ln]; exact hlt)⟩
        have hyb : y.bs = frm (inQ X.1 X.2) := by
          have h1 : (lg.map Bk.bs)[t]? = some y.bs := by rw [List.getElem?_map, hy]; rfl
          rw [HBS.out, ← HFQ2.out] at h1
          unfold frmsQ at h1
          rw [List.getElem?_map, hX] at h1
          exact (Option.some.inj h1).symm
        have hOK := HOKX.out X (List.mem_of_getElem? hX)
        obtain ⟨gq, rfl, q0⟩ := (HRD.out.k0 HIN.out).at hy
        have hyr := (HRD.out.k0 HIN.out).it y (List.mem_of_getElem? hy)
        have hrr := readRequest_any y.p y.bs.length y.c y.bs wr rfl hyr.2.1 hyr.1 (by rw [hyb]; exact frm_bdQ (inQ_bd hOK.bd)) ((HPR.out.kept HWR.out).kept HIN.out)
        obtain ⟨bq1, bq2, bq3⟩ := back_q hOK.may hOK.len
        have HRR : Hid (Calls Tryd.prog 17 #[.slice y.p y.bs.length y.c] wr fun e w' => ∃ p n c, e = .returned (.tuple #[.agg (Rq.mk X.1.ses X.1.id X.1.verb X.1.name X.1.item X.1.other X.1.path X.1.at_ X.1.many p n c).arr, .int .i64 0]) ∧ X.2.length = n ∧ Rd w' p X.2 ∧ Frm [] wr w') := hid (hrr.mono (fun e w' h => by
          obtain ⟨p, n, c, he, hn, ho, hnw, hf⟩ := h
          rw [hyb, bq1, bq3] at he
          rw [hyb, bq2] at hn ho
          subst hn
          exact ⟨p, _, c, he, rfl, ho.rd, hf⟩))
        have HX := hid hX
        have hyc := hyr.2
        obtain ⟨yl, hyl⟩ : ∃ z, y.bs.length = z := ⟨_, rfl⟩
        rw [hyl] at q0 HRR hyc
        obtain ⟨gs, hgs⟩ : ∃ gs, ps = some ⟨gs, 0, none⟩ := by
          rcases HSN.out.2 with ⟨_, h0⟩ | ⟨g, c', cur, he, _⟩
          · omega
          · simp only [Value.slice.injEq] at he; exact ⟨g, he.1⟩
        subst hgs
        have HRS : Hid (∀ V, Frm [] w5 V → ∀ j u, X.1.arr.toList[j]? = some u → V.cell? ⟨gs, t * 10 + j, none⟩ = some u) := hid (fun V hf j u hu => by
          have hj : j < 10 := by have := (List.getElem?_eq_some_iff.1 hu).1; have e : X.1.arr.toList.length = 10 := rfl; omega
          rw [World.ownsRow.cellAt (ownsRow_kept HSN.out hf (by simp)) (t * 10 + j) (by omega), rowsRq_at l t X j HX.out hj]
          exact hu)
        have HDD := hid hOK.rd
        have HDL := hid hOK.len
        have HXC := hid (rfl : X.1.dc = X.1.dc)
        clear hX hy hyb hOK hyr hrr bq1 bq2 bq3 HX
        obtain ⟨⟨ses, id, verb, name, item, other, path, at_, many, dp, dl, dc⟩, ds⟩ := X
        unfold Rq.arr at HRR HRS
        simp only at HRR HRS HDD HDL
        clear HXC hyl
        go_wp2_with fail
        refine HRR.out.mono ?_
        rintro e w7 ⟨p7, n7, c7, rfl, hn7, hr7, hf7⟩
        obtain ⟨xb, hxb⟩ : ∃ z, w7.heap.size = z := ⟨_, rfl⟩
        obtain ⟨w8, hw8⟩ : ∃ z, w7.alloc (.cells #[.int .i64 ses, .int .i64 id, .int .i64 verb, .string name, .string item, .string other, .string path, .int .i64 at_, .int .i64 many, .slice p7 n7 c7] 24) = z := ⟨_, rfl⟩
        have hrow8 := heap_alloc_new w7 (.cells #[.int .i64 ses, .int .i64 id, .int .i64 verb, .string name, .string item, .string other, .string path, .int .i64 at_, .int .i64 many, .slice p7 n7 c7] 24)
        rw [hw8, hxb] at hrow8
        have hf8 : Frm [] w7 w8 := by rw [← hw8]; exact (Frm.refl _ _).alloc _
        have HROW8 := hid hrow8
        have HF8 : Hid (Frm [] w5 w8) := hid ((HIN.out.trans hf7 (by simp)).trans hf8 (by simp))
        have HR8 := hid (hr7.kept hf8 (by simp))
        have HN7 := hid hn7
        have HXB := hid hxb
        have HW8 := hid hw8
        have HSQ := hid (fun V (hf : Frm [] w8 V) => sameQ_any ses id verb name item other path at_ many p7 dp n7 c7 dl dc ds V (HR8.out.kept hf (by simp)) (((HDD.out.kept HWR.out (by simp)).kept HF8.out (by simp)).kept hf (by simp)) HN7.out HDL.out)
        clear hrow8 hf8 hf7 hr7 hn7 hxb hw8 q0 HRR
        go_upto_region 33 with fail
        first | rw [HXB.out] | skip
        first | rw [HW8.out] | skip
        clear HXB HW8
        have hs0 : w8.drew.cell? ⟨xb, 0, none⟩ = some (.int .i64 ses) ∧ w8.drew.cell? ⟨xb, 1, none⟩ = some (.int .i64 id) ∧ w8.drew.cell? ⟨xb, 2, none⟩ = some (.int .i64 verb) ∧ w8.drew.cell? ⟨xb, 3, none⟩ = some (.string name) ∧ w8.drew.cell? ⟨xb, 4, none⟩ = some (.string item) ∧ w8.drew.cell? ⟨xb, 5, none⟩ = some (.string other) ∧ w8.drew.cell? ⟨xb, 6, none⟩ = some (.string path) ∧ w8.drew.cell? ⟨xb, 7, none⟩ = some (.int .i64 at_) ∧ w8.drew.cell? ⟨xb, 8, none⟩ = some (.int .i64 many) ∧ w8.drew.cell? ⟨xb, 9, none⟩ = some (.slice p7 n7 c7) ∧ w8.drew.cell? ⟨gs, t * 10, none⟩ = some (.int .i64 ses) ∧ w8.drew.cell? ⟨gs, t * 10 + 1, none⟩ = some (.int .i64 id) ∧ w8.drew.cell? ⟨gs, t * 10 + 2, none⟩ = some (.int .i64 verb) ∧ w8.drew.cell? ⟨gs, t * 10 + 3, none⟩ = some (.string name) ∧ w8.drew.cell? ⟨gs, t * 10 + 4, none⟩ = some (.string item) ∧ w8.drew.cell? ⟨gs, t * 10 + 5, none⟩ = some (.string other) ∧ w8.drew.cell? ⟨gs, t * 10 + 6, none⟩ = some (.string path) ∧ w8.drew.cell? ⟨gs, t * 10 + 7, none⟩ = some (.int .i64 at_) ∧ w8.drew.cell? ⟨gs, t * 10 + 8, none⟩ = some (.int .i64 many) ∧ w8.drew.cell? ⟨gs, t * 10 + 9, none⟩ = some (.slice dp dl dc) := by
          have hc := HRS.out w8.drew HF8.out.drew
          have hr := (Frm.refl [] w8).drew.heap HROW8.out (by simp)
          refine ⟨?_, ?_, ?_, ?_, ?_, ?_, ?_, ?_, ?_, ?_, hc 0 _ rfl, hc 1 _ rfl, hc 2 _ rfl, hc 3 _ rfl, hc 4 _ rfl, hc 5 _ rfl, hc 6 _ rfl, hc 7 _ rfl, hc 8 _ rfl, hc 9 _ rfl⟩ <;> (rw [cell_of_row _ _ _ _ _ _ hr]; rfl)
        have HKS : Hid (∀ V, Frm [] w8.drew V → (V.cell? ⟨xb, 0, none⟩ = some (.int .i64 ses) ∧ V.cell? ⟨xb, 1, none⟩ = some (.int .i64 id) ∧ V.cell? ⟨xb, 2, none⟩ = some (.int .i64 verb) ∧ V.cell? ⟨xb, 3, none⟩ = some (.string name) ∧ V.cell? ⟨xb, 4, none⟩ = some (.string item) ∧ V.cell? ⟨xb, 5, none⟩ = some (.string other) ∧ V.cell? ⟨xb, 6, none⟩ = some (.string path) ∧ V.cell? ⟨xb, 7, none⟩ = some (.int .i64 at_) ∧ V.cell? ⟨xb, 8, none⟩ = some (.int .i64 many) ∧ V.cell? ⟨xb, 9, none⟩ = some (.slice p7 n7 c7) ∧ V.cell? ⟨gs, t * 10, none⟩ = some (.int .i64 ses) ∧ V.cell? ⟨gs, t * 10 + 1, none⟩ = some (.int .i64 id) ∧ V.cell? ⟨gs, t * 10 + 2, none⟩ = some (.int .i64 verb) ∧ V.cell? ⟨gs, t * 10 + 3, none⟩ = some (.string name) ∧ V.cell? ⟨gs, t * 10 + 4, none⟩ = some (.string item) ∧ V.cell? ⟨gs, t * 10 + 5, none⟩ = some (.string other) ∧ V.cell? ⟨gs, t * 10 + 6, none⟩ = some (.string path) ∧ V.cell? ⟨gs, t * 10 + 7, none⟩ = some (.int .i64 at_) ∧ V.cell? ⟨gs, t * 10 + 8, none⟩ = some (.int .i64 many) ∧ V.cell? ⟨gs, t * 10 + 9, none⟩ = some (.slice dp dl dc))) := hid (fun V hf => by
          have hc := HRS.out V (HF8.out.drew.trans hf (by simp))
          have hr := ((Frm.refl [] w8).drew.trans hf (by simp)).heap HROW8.out (by simp)
          refine ⟨?_, ?_, ?_, ?_, ?_, ?_, ?_, ?_, ?_, ?_, hc 0 _ rfl, hc 1 _ rfl, hc 2 _ rfl, hc 3 _ rfl, hc 4 _ rfl, hc 5 _ rfl, hc 6 _ rfl, hc 7 _ rfl, hc 8 _ rfl, hc 9 _ rfl⟩ <;> (rw [cell_of_row _ _ _ _ _ _ hr]; rfl))
        refine wp_region_tail (S := fun W => (W.cell? ⟨xb, 0, none⟩ = some (.int .i64 ses) ∧ W.cell? ⟨xb, 1, none⟩ = some (.int .i64 id) ∧ W.cell? ⟨xb, 2, none⟩ = some (.int .i64 verb) ∧ W.cell? ⟨xb, 3, none⟩ = some (.string name) ∧ W.cell? ⟨xb, 4, none⟩ = some (.string item) ∧ W.cell? ⟨xb, 5, none⟩ = some (.string other) ∧ W.cell? ⟨xb, 6, none⟩ = some (.string path) ∧ W.cell? ⟨xb, 7, none⟩ = some (.int .i64 at_) ∧ W.cell? ⟨xb, 8, none⟩ = some (.int .i64 many) ∧ W.cell? ⟨xb, 9, none⟩ = some (.slice p7 n7 c7) ∧ W.cell? ⟨gs, t * 10, none⟩ = some (.int .i64 ses) ∧ W.cell? ⟨gs, t * 10 + 1, none⟩ = some (.int .i64 id) ∧ W.cell? ⟨gs, t * 10 + 2, none⟩ = some (.int .i64 verb) ∧ W.cell? ⟨gs, t * 10 + 3, none⟩ = some (.string name) ∧ W.cell? ⟨gs, t * 10 + 4, none⟩ = some (.string item) ∧ W.cell? ⟨gs, t * 10 + 5, none⟩ = some (.string other) ∧ W.cell? ⟨gs, t * 10 + 6, none⟩ = some (.string path) ∧ W.cell? ⟨gs, t * 10 + 7, none⟩ = some (.int .i64 at_) ∧ W.cell? ⟨gs, t * 10 + 8, none⟩ = some (.int .i64 many) ∧ W.cell? ⟨gs, t * 10 + 9, none⟩ = some (.slice dp dl dc))) 6 7 rfl (by kernel_rfl) (by kernel_rfl) ?_
        refine wpAnyHT_take (i := 0) (oi := _) (v := ?_) (by kernel_rfl) rfl (by kernel_rfl) (by kernel_rfl) (by kernel_rfl) (by kernel_rfl) (fun _ _ _ h => h) (Or.inl ⟨by rfl, ?_⟩) hs0 ?_
        rotate_left 1
        · (intro W hSw; obtain ⟨s0, s1, s2, s3, s4, s5, s6, s7, s8, s9, s10, s11, s12, s13, s14, s15, s16, s17, s18, s19⟩ := hSw; (try simp only [List.getElem_toArray, List.getElem_cons_zero]); go_simp; try with_reducible rfl)
        try simp only [List.getElem_toArray, List.getElem_cons_zero, Act.put, List.setIfInBounds_toArray, List.set_cons_zero, List.set_cons_succ]
        refine wpAnyHT_take (i := 1) (oi := _) (v := ?_) (by kernel_rfl) rfl (by kernel_rfl) (by kernel_rfl) (by kernel_rfl) (by kernel_rfl) (fun _ _ _ h => h) (Or.inl ⟨by rfl, ?_⟩) hs0 ?_
        rotate_left 1
        · (intro W hSw; obtain ⟨s0, s1, s2, s3, s4, s5, s6, s7, s8, s9, s10, s11, s12, s13, s14, s15, s16, s17, s18, s19⟩ := hSw; (try simp only [List.getElem_toArray, List.getElem_cons_succ, List.getElem_cons_zero]); go_simp; try with_reducible rfl)
        try simp only [List.getElem_toArray, List.getElem_cons_succ, List.getElem_cons_zero, Act.put, List.setIfInBounds_toArray, List.set_cons_zero, List.set_cons_succ]
        refine wpAnyHT_take (i := 2) (oi := _) (v := ?_) (by kernel_rfl) rfl (by kernel_rfl) (by kernel_rfl) (by kernel_rfl) (by kernel_rfl) (fun _ _ _ h => h) (Or.inl ⟨by rfl, ?_⟩) hs0 ?_
        rotate_left 1
        · (intro W hSw; obtain ⟨s0, s1, s2, s3, s4, s5, s6, s7, s8, s9, s10, s11, s12, s13, s14, s15, s16, s17, s18, s19⟩ := hSw; (try simp only [List.getElem_toArray, List.getElem_cons_succ, List.getElem_cons_zero]); go_simp; try with_reducible rfl)
        try simp only [List.getElem_toArray, List.getElem_cons_succ, List.getElem_cons_zero, Act.put, List.setIfInBounds_toArray, List.set_cons_zero, List.set_cons_succ]
        refine wpAnyHT_take (i := 3) (oi := _) (v := ?_) (by kernel_rfl) rfl (by kernel_rfl) (by kernel_rfl) (by kernel_rfl) (by kernel_rfl) (fun _ _ _ h => h) (Or.inl ⟨by rfl, ?_⟩) hs0 ?_
        rotate_left 1
        · (intro W hSw; obtain ⟨s0, s1, s2, s3, s4, s5, s6, s7, s8, s9, s10, s11, s12, s13, s14, s15, s16, s17, s18, s19⟩ := hSw; (try simp only [List.getElem_toArray, List.getElem_cons_succ, List.getElem_cons_zero]); go_simp; try with_reducible rfl)
        try simp only [List.getElem_toArray, List.getElem_cons_succ, List.getElem_cons_zero, Act.put, List.setIfInBounds_toArray, List.set_cons_zero, List.set_cons_succ]
        refine wpAnyHT_take (i := 4) (oi := _) (v := ?_) (by kernel_rfl) rfl (by kernel_rfl) (by kernel_rfl) (by kernel_rfl) (by kernel_rfl) (fun _ _ _ h => h) (Or.inl ⟨by rfl, ?_⟩) hs0 ?_
        rotate_left 1
        · (intro W hSw; obtain ⟨s0, s1, s2, s3, s4, s5, s6, s7, s8, s9, s10, s11, s12, s13, s14, s15, s16, s17, s18, s19⟩ := hSw; (try simp only [List.getElem_toArray, List.getElem_cons_succ, List.getElem_cons_zero]); go_simp; try with_reducible rfl)
        try simp only [List.getElem_toArray, List.getElem_cons_succ, List.getElem_cons_zero, Act.put, List.setIfInBounds_toArray, List.set_cons_zero, List.set_cons_succ]
        refine wpAnyHT_one (i := 5) rfl (by kernel_rfl) (by kernel_rfl) (fun K hK => ?_)
        try simp only [List.getElem_toArray, List.getElem_cons_succ, List.getElem_cons_zero]
        go_simp
        refine (HSQ.out _ (Frm.refl [] w8).drew).mono ?_
        rintro e w9 ⟨rfl, hf9⟩
        refine hK _ _ (HKS.out _ hf9) ?_
        clear hK K
        try simp only [List.getElem_toArray, List.getElem_cons_succ, List.getElem_cons_zero, Act.put, List.setIfInBounds_toArray, List.set_cons_zero, List.set_cons_succ]
        refine wpAnyHT_end (by kernel_rfl) ?_
        simp only [List.drop_succ_cons, List.drop_zero]
        have HF9 : Hid (Frm [] w5 w9) := hid (HF8.out.drew.trans hf9 (by simp))
        clear hf9 hs0 HKS HSQ HRS
        go_wp2_with fail
        go_roundw
        case rel => exact ⟨t + 1, by omega, by go_num, HF9⟩
        case measure => first | (simp [intOf]; done) | (simp [intOf]; omega)
end
end Go.Proofs.YtignoocdeghiaaaDoor
