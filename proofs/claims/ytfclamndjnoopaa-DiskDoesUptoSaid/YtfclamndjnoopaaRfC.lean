/- The document's disks: Read. -/
import Derived.Test.YtfclamndjnoopaaRfB
import Derived.Deep.DeepCutAuto
namespace Go.Proofs.Ytfclamndjnoopaa
open Go.RowKit Go.Lib
set_option maxRecDepth 100000

def SecR.none : SecR := ⟨0, 0, []⟩
/-- What is read of j sectors. -/
def seenL (H : RHp) (i : Nat) (d : RDk) (a j : Nat) : List Int := (List.range j).flatMap (fun t => (seenS H.ws i (a + t) (d.ss.getD (a + t) SecR.none)).bs)
theorem seenL_succ (H : RHp) (i : Nat) (d : RDk) (a j : Nat) : seenL H i d a (j + 1) = seenL H i d a j ++ (seenS H.ws i (a + j) (d.ss.getD (a + j) SecR.none)).bs := by simp [seenL, List.range_succ]
theorem seenS_mem (ws : List RWt) (d k : Nat) (s : SecR) : seenS ws d k s = s ∨ ∃ x ∈ ws, seenS ws d k s = x.s := by
  induction ws generalizing s with
  | nil => exact Or.inl rfl
  | cons x ws ih =>
    show seenS ws d k (if x.d = d ∧ x.at_ = k then x.s else s) = s ∨ ∃ y ∈ x :: ws, seenS ws d k (if x.d = d ∧ x.at_ = k then x.s else s) = y.s
    by_cases h : x.d = d ∧ x.at_ = k
    · rw [if_pos h]
      rcases ih x.s with h1 | ⟨y, hy, h1⟩
      · exact Or.inr ⟨x, by simp, h1⟩
      · exact Or.inr ⟨y, by simp [hy], h1⟩
    · rw [if_neg h]
      rcases ih s with h1 | ⟨y, hy, h1⟩
      · exact Or.inl h1
      · exact Or.inr ⟨y, by simp [hy], h1⟩
theorem IsRf.seen {w : World} {φ : Nat → Rl} {H : RHp} (h : IsRf w φ H) {i k : Nat} {d : RDk} {s : SecR} (hi : H.ds[i]? = some d) (hk : d.ss[k]? = some s) : SecOk w φ (seenS H.ws i k s) := by
  rcases seenS_mem H.ws i k s with e | ⟨x, hx, e⟩
  · rw [e]; exact h.secD i d hi s (List.mem_of_getElem? hk)
  · rw [e]; exact h.secW x hx
theorem IsRf.new {w w' : World} {φ : Nat → Rl} {H : RHp} (h : IsRf w φ H) (hf : Frm [] w w') : IsRf w' φ H := h.kept hf.size (fun k hk _ => hf.block k hk (by simp)) (fun _ _ => rfl)
theorem seenL_length {w : World} {φ : Nat → Rl} {H : RHp} (h : IsRf w φ H) {i a : Nat} {d : RDk} (hi : H.ds[i]? = some d) : ∀ j, a + j ≤ d.ss.length → (seenL H i d a j).length = j * 128 := by
  intro j
  induction j with
  | zero => intro _; rfl
  | succ j ih =>
    intro hj
    have hs : d.ss[a + j]? = some (d.ss.getD (a + j) SecR.none) := by rw [List.getD_eq_getElem?_getD, List.getElem?_eq_getElem (by omega)]; rfl
    rw [seenL_succ, List.length_append, ih (by omega), (h.seen hi hs).len]; omega
def askR (H : RHp) (d : RDk) (at_ many : Int) : Int := if downR H d ≠ 0 then downR H d else if at_ < 0 ∨ many < 0 ∨ (d.ss.length : Int) < at_ ∨ (d.ss.length : Int) - at_ < many then 1 else 0
/-- What Read answers. -/
def PostRR (w : World) (bs : List Int) (err : Int) (e : Ending) (w' : World) : Prop :=
  ∃ p c, e = .returned (.tuple #[.slice p bs.length c, .int .i64 err]) ∧ Own w' 5 (.slice p bs.length c) bs ∧ Frm [] w w' ∧ (∀ k ∈ blk p, w.heap.size ≤ k)
set_option maxHeartbeats 3200000 in
theorem refRead_any (φ : Nat → Rl) (H : RHp) (i : Nat) (d : RDk) (at_ many : Int) (w : World) (h : IsRf w φ H) (hi : H.ds[i]? = some d) (ha : -9223372036854775808 ≤ at_ ∧ at_ ≤ 9223372036854775807) (hm : -9223372036854775808 ≤ many ∧ many ≤ 9223372036854775807) :
    Calls Try.prog 44 #[.pointer (some ⟨H.rb, 0, none⟩), .int .i64 (i : Int), .int .i64 at_, .int .i64 many] w (PostRR w (if askR H d at_ many = 0 then seenL H i d at_.toNat many.toNat else []) (askR H d at_ many)) := by
  have HH := hid h
  have HI := hid hi
  have HDW := hid (refDown_any φ H i d w h hi)
  obtain ⟨c0, c1, c2, c3, c4⟩ := h.cells
  obtain ⟨gd, hgd, d0, d1, d2⟩ := h.at hi
  have hil : (i : Int) < (H.ds.length : Int) := by have := (List.getElem?_eq_some_iff.1 hi).1; omega
  have hdl := h.dl
  have hnb := h.nb i d hi
  obtain ⟨n, hn⟩ : ∃ n, H.ds.length = n := ⟨_, rfl⟩
  obtain ⟨l, hll⟩ : ∃ l, d.ss.length = l := ⟨_, rfl⟩
  obtain ⟨E, hE⟩ : ∃ E, downR H d = E := ⟨_, rfl⟩
  rw [hgd, hn] at c0
  rw [hn] at hil hdl
  rw [hll] at hnb d1
  rw [hE] at HDW
  obtain ⟨A, hA⟩ : ∃ A, askR H d at_ many = A := ⟨_, rfl⟩
  have HA : Hid (A = if E ≠ 0 then E else if at_ < 0 ∨ many < 0 ∨ (l : Int) < at_ ∨ (l : Int) - at_ < many then 1 else 0) := hid (by rw [← hA, ← hE, ← hll]; rfl)
  rw [hA]
  obtain ⟨PO, hPO⟩ : ∃ PO, PostRR w (if A = 0 then seenL H i d at_.toNat many.toNat else []) A = PO := ⟨_, rfl⟩
  rw [hPO]
  have HPO := hid hPO
  have HL := hid hll
  have herr : Hid (A ≠ 0 → PO (.returned (.tuple #[.slice none 0 0, .int .i64 A])) w) := hid (fun h0 => by
    rw [← hPO, if_neg h0]
    exact ⟨none, 0, rfl, Own.nil _ _, Frm.refl _ _, by simp [blk]⟩)
  clear h hi hn hll hgd hE hA hPO c1 c2 c3 c4 d2
  go_enter Try.func44, Try.ntmps44
  go_wp2_with fail
  refine HDW.out.mono ?_
  rintro e w1 ⟨rfl, rfl⟩
  by_cases hE0 : E = 0
  case neg =>
    have hb : (E != 0) = true := by simpa using hE0
    have HAE : Hid (A = E) := hid (by rw [HA.out, if_pos hE0])
    have hP := herr.out (by rw [HAE.out]; exact hE0)
    rw [HAE.out] at hP
    have HP := hid hP
    clear hP hE0
    go_wp2_with fail
    exact HP.out
  subst hE0
  by_cases h1 : at_ < 0
  · have HAE : Hid (A = 1) := hid (by rw [HA.out, if_neg (by simp), if_pos (by omega)])
    have hP := herr.out (by rw [HAE.out]; decide)
    rw [HAE.out] at hP
    have HP := hid hP
    clear hP
    go_wp2_with fail
    exact HP.out
  by_cases h2 : many < 0
  · have HAE : Hid (A = 1) := hid (by rw [HA.out, if_neg (by simp), if_pos (by omega)])
    have hP := herr.out (by rw [HAE.out]; decide)
    rw [HAE.out] at hP
    have HP := hid hP
    clear hP
    go_wp2_with fail
    exact HP.out
  by_cases h3 : (l : Int) < at_
  · have HAE : Hid (A = 1) := hid (by rw [HA.out, if_neg (by simp), if_pos (by omega)])
    have hP := herr.out (by rw [HAE.out]; decide)
    rw [HAE.out] at hP
    have HP := hid hP
    clear hP
    go_wp2_with fail
    exact HP.out
  by_cases h4 : (l : Int) - at_ < many
  · have HAE : Hid (A = 1) := hid (by rw [HA.out, if_neg (by simp), if_pos (by omega)])
    have hP := herr.out (by rw [HAE.out]; decide)
    rw [HAE.out] at hP
    have HP := hid hP
    clear hP
    go_wp2_with fail
    exact HP.out
  obtain ⟨a, rfl⟩ : ∃ a : Nat, at_ = a := ⟨at_.toNat, by omega⟩
  obtain ⟨k, rfl⟩ : ∃ k : Nat, many = k := ⟨many.toNat, by omega⟩
  have HA0 : Hid (A = 0) := hid (by rw [HA.out, if_neg (by simp), if_neg (by omega)])
  have HAK : Hid (a + k ≤ l) := hid (by omega)
  clear herr
  go_upto_region 5 with fail
  go_cut [49] from 32 to 49 (fun s wx => s = .bool false ∧ wx = w1)
  case first =>
    have b1 : decide ((a : Int) < 0) = false := decide_eq_false (by omega)
    have b2 : decide ((k : Int) < 0) = false := decide_eq_false (by omega)
    have b3 : decide ((l : Int) < (a : Int)) = false := decide_eq_false (by omega)
    have b4 : decide ((l : Int) - (a : Int) < (k : Int)) = false := decide_eq_false (by omega)
    go_wp2_with fail
    go_meet
    case rel => exact ⟨by first | rfl | (simp; omega), rfl⟩
  obtain ⟨rfl, hwc⟩ := hcut
  have hw6 := hwc.symm
  clear hwc
  subst hw6
  have hb8 : (a : Int) + (k : Int) ≤ 8192 := by have := HAK.out; omega
  clear h1 h2 h3 h4
  go_wp2_with fail
  go_loopw [12, 13, 14] (fun b t s14 wr => ∃ (j : Nat) (p : Option Addr) (n c : Nat), j ≤ k ∧ b = .slice p n c ∧ t = .int .i64 ((a : Int) + (j : Int)) ∧ Hid (n = (seenL H i d a j).length) ∧ Hid (Own wr 5 (.slice p n c) (seenL H i d a j)) ∧ Hid (Frm [] w1 wr) ∧ Hid (∀ k ∈ blk p, w1.heap.size ≤ k)) (fun _ t _ _ => (a + k) - (intOf t).toNat)
  case atStart => exact ⟨0, none, 0, 0, by omega, rfl, by simp, hid rfl, hid (Own.nil _ _), hid (Frm.refl _ _), hid (by simp [blk])⟩
  case round =>
    obtain ⟨j, p, n, c, hj, rfl, rfl, hnl, ho, hfr, hbl⟩ := hrel
    by_cases hlt : j < k
    · have t1 : (a : Int) + (j : Int) < (a : Int) + (k : Int) := by omega
      have hs : d.ss[a + j]? = some (d.ss.getD (a + j) SecR.none) := by rw [List.getD_eq_getElem?_getD, List.getElem?_eq_getElem (by rw [HL.out]; have := HAK.out; omega)]; rfl
      have hsn := refSeen_any φ H i (a + j) d _ wr (HH.out.new hfr.out) HI.out hs
      have hok := (HH.out.new hfr.out).seen HI.out hs
      obtain ⟨S, hS⟩ : ∃ S, seenS H.ws i (a + j) (d.ss.getD (a + j) SecR.none) = S := ⟨_, rfl⟩
      rw [hS] at hsn hok
      rw [show ((a + j : Nat) : Int) = (a : Int) + (j : Int) by omega] at hsn
      have HSN := hid hsn
      have HOK := hid hok
      have HNX : Hid (seenL H i d a (j + 1) = seenL H i d a j ++ S.bs) := hid (by rw [seenL_succ, hS])
      have HLJ : Hid ((seenL H i d a j).length = j * 128) := hid (seenL_length HH.out HI.out j (by rw [HL.out]; have := HAK.out; omega))
      clear hs hsn hok hS
      unfold SecR.v at HSN
      go_wp2_with fail
      refine HSN.out.mono ?_
      rintro e w2 ⟨rfl, rfl⟩
      obtain ⟨xs, hxs⟩ : ∃ xs, seenL H i d a j = xs := ⟨_, rfl⟩
      rw [hxs] at ho hnl HNX HLJ
      have hnn := hnl.out
      subst hnn
      go_wp2_with (at_builtin; refine wpList_appB rfl _ _ 22 rfl 5 Try.underlying22 infoB p _ c xs rfl rfl ho.out (some ⟨S.g, 0, none⟩) 128 S.c S.bs rfl HOK.out.len.symm (by simp) HOK.out.rd (by have := HLJ.out; have := HOK.out.len; omega) ?_)
      intro ys p2 c2 w3 hys ho2 hf2 hb2
      have HY : Hid (ys = seenL H i d a (j + 1)) := hid (by rw [hys.out, HNX.out])
      have HO2 : Hid (Own w3 5 (.slice p2 ys.length c2) (seenL H i d a (j + 1))) := hid (by have := ho2.out; rwa [HY.out] at this ⊢)
      have HF2 := hid (hfr.out.trans hf2.out (fun k hk hl => by have := hbl.out k hk; omega))
      have HB2 : Hid (∀ k ∈ blk p2, w1.heap.size ≤ k) := hid (fun k hk => (hb2.out k hk).elim (hbl.out k) (fun h => by have := hfr.out.size; omega))
      have HN2 : Hid (ys.length = (seenL H i d a (j + 1)).length) := hid (by rw [HY.out])
      clear hys ho2 hf2 hb2 HSN HOK HNX HLJ ho hfr hbl hxs HY hnl
      go_wp2_with fail
      go_roundw
      case rel => exact ⟨j + 1, p2, _, c2, by omega, rfl, by go_num, HN2, HO2, HF2, HB2⟩
      case measure => first | (simp [intOf]; done) | (simp [intOf]; omega)
    · obtain rfl : j = k := by omega
      go_wp2_with fail
      rw [← HPO.out]
      refine ⟨p, c, ?_, ?_, hfr.out, hbl.out⟩
      · rw [HA0.out, if_pos rfl, Int.toNat_natCast, Int.toNat_natCast, ← hnl.out]
        rfl
      · rw [HA0.out, if_pos rfl, Int.toNat_natCast, Int.toNat_natCast]
        have := ho.out
        rw [hnl.out] at this
        exact this
end Go.Proofs.Ytfclamndjnoopaa
