/- Contracts of package code's reader's methods: Text, Pad, Left, Done. -/
import Derived.Test.YtdnnbinmippkdaaDoorCodeT
namespace Go.Proofs.YtdnnbinmippkdaaDoor
open Go.RowKit
set_option maxRecDepth 100000

/-- string(b), of bytes that stand somewhere. -/
theorem conv_rd {P : Program} {w : World} (src e dst : TypeId) (hs : P.underlying src = some (.slice e)) (he : P.underlying e = some (.int .u8)) (hd : P.underlying dst = some .string) {g o n : Nat} {zs : List Int} (hrd : Rd w (some ⟨g, o, none⟩) zs) (cap : Nat) (hn : zs.length = n) :
    Sem.run P (convert src dst (.slice (some ⟨g, o, none⟩) n cap)) w = .ok (.string (strOfNums zs)) w := by
  refine run_convert_bytes_arg (P := P) (w := w) src e hs he g o n cap zs hn (fun i hi => ?_) dst hd
  rcases hrd with rfl | ⟨g', o', h, hc⟩
  · simp at hn; omega
  · simp at h; obtain ⟨rfl, rfl⟩ := h; exact hc i (by omega)
/-- A text's reading. -/
def textT (ls : List Int) (most : Int) : List Int × Nat × Int :=
  if ls.length < 2 then ([], 0, 10) else if most < leV (ls.take 2) then ([], 0, 11) else if ls.length < 2 + (leV (ls.take 2)).toNat then ([], 0, 10) else ((ls.drop 2).take (leV (ls.take 2)).toNat, 2 + (leV (ls.take 2)).toNat, 0)
theorem textT_len (ls : List Int) (k : Int) : (textT ls k).2.1 ≤ ls.length := by
  unfold textT
  split
  · simp
  · split
    · simp
    · split
      · simp
      · simp; omega
theorem int_eq {a c : Int} (h : a = c) : Ending.returned (.int .i64 a) = Ending.returned (.int .i64 c) := by rw [h]
theorem tup_eq {a c : Int} {v : Value} (h : a = c) : Ending.returned (.tuple #[.int .i64 a, v]) = Ending.returned (.tuple #[.int .i64 c, v]) := by rw [h]
/-- Noughts' reading: of the rest ls at pos, of so many bytes in all. -/
def padT (ls : List Int) (pos : Nat) (to : Int) : Unit × Nat × Int :=
  if to < pos then ((), 0, 11) else if ((pos + ls.length : Nat) : Int) < to then ((), 0, 10) else if ((ls.take (to - pos).toNat).all (· == 0)) = false then ((), 0, 14) else ((), (to - pos).toNat, 0)
theorem padT_len (ls : List Int) (pos : Nat) (k : Int) : (padT ls pos k).2.1 ≤ ls.length := by
  unfold padT
  split
  · simp
  · split
    · simp
    · split
      · simp
      · simp; omega
set_option maxHeartbeats 400000 in
theorem pad1R_any (x y b g o c pos : Nat) (to : Int) (bs ls : List Int) (w : World) (hw : IsR w b g bs pos 0) (hls : pos + ls.length = bs.length) (hrd : Rd w (some ⟨g, o, none⟩) ls) (hc : ls.length ≤ c) (hc2 : c ≤ 140737488355328)
    (hk : -9223372036854775808 ≤ to) (hk2 : to ≤ 9223372036854775807) (hx : w.cell? ⟨x, 0, none⟩ = some (.int .i64 to)) (hy : w.cell? ⟨y, 0, none⟩ = some (.pointer (some ⟨b, 0, none⟩))) :
    Calls Tryd.prog 78 #[.slice (some ⟨g, o, none⟩) ls.length c, .pointer (some ⟨x, 0, none⟩), .pointer (some ⟨y, 0, none⟩)] w (GivesR (padT ls pos to).2.1 (padT ls pos to).2.2 [] (fun _ => True) w) := by
  obtain ⟨hlt, hlg, hbg, hpos, hlen, c0, c1, c2, f1, f2, _⟩ := hw.cells
  clear hw
  by_cases h1 : to < pos
  · rw [show padT ls pos to = ((), 0, 11) by unfold padT; rw [if_pos h1]]
    go_enter Tryd.func78, Tryd.ntmps78
    go_wp2_with fail
    go_quiet (fail)
    go_wp2_with fail
    go_returns
    exact ⟨rfl, trivial, (Frm.refl _ _).drewN _⟩
  · by_cases h2 : ((pos + ls.length : Nat) : Int) < to
    · rw [show padT ls pos to = ((), 0, 10) by unfold padT; rw [if_neg h1, if_pos h2]]
      go_enter Tryd.func78, Tryd.ntmps78
      go_wp2_with fail
      go_quiet (fail)
      go_wp2_with fail
      go_quiet (fail)
      go_wp2_with fail
      go_returns
      exact ⟨rfl, trivial, ((Frm.refl _ _).drewN _).drewN _⟩
    · obtain ⟨j, rfl⟩ : ∃ j : Nat, to = ((pos + j : Nat) : Int) := ⟨(to - pos).toNat, by omega⟩
      have hj : j ≤ ls.length := by omega
      have hjc : (j : Int) ≤ (c : Int) := by omega
      have e0 : padT ls pos ((pos + j : Nat) : Int) = if ((ls.take j).all (· == 0)) = false then ((), 0, 14) else ((), j, 0) := by
        unfold padT; rw [if_neg h1, if_neg h2, show (((pos + j : Nat) : Int) - (pos : Int)).toNat = j by omega]
      rw [e0]
      clear e0
      obtain ⟨r, hr⟩ : ∃ r : Unit × Nat × Int, (if ((ls.take j).all (· == 0)) = false then ((), 0, 14) else ((), j, 0)) = r := ⟨_, rfl⟩
      rw [hr]
      have HE := hid hr
      clear hr
      go_enter Tryd.func78, Tryd.ntmps78
      go_wp2_with fail
      go_quiet (fail)
      go_wp2_with fail
      go_quiet (fail)
      go_wp2_with fail
      go_quiet (fail)
      go_wp2_with fail
      have HR : Hid (∀ i, i < ls.length → w.cell? ⟨g, o + i, none⟩ = some (.int .u8 (ls.getD i 0))) := by
        intro i hi
        rcases hrd with h | ⟨g', o', h, hcc⟩
        · subst h; simp at hi
        · simp at h; obtain ⟨rfl, rfl⟩ := h; exact hcc i hi
      clear hrd
      go_loop [4, 5, 30] (fun a e i => ∃ t : Nat, t ≤ j ∧ i = .int .i64 t ∧ a = .int .i64 0 ∧ e = .int .i64 0 ∧ Hid (∀ i, i < t → ls.getD i 0 = 0)) (fun _ _ i => j - (intOf i).toNat)
      case atStart => exact ⟨0, Nat.zero_le _, rfl, rfl, rfl, fun i hi => absurd hi (Nat.not_lt_zero _)⟩
      case round =>
        obtain ⟨t, ht, rfl, rfl, rfl, hz⟩ := hrel
        by_cases hlt : t < j
        · have hcell := HR.out t (by omega)
          generalize hx0 : ls.getD t 0 = v at hcell
          have HX := hid hx0
          clear hx0
          by_cases hv : v = 0
          · subst hv
            go_wp2_with fail
            go_round
            case rel =>
              refine ⟨_, _, _, _, ⟨t + 1, ?_, ?_, rfl, rfl, fun i hi => ?_⟩, rfl, rfl, rfl, rfl⟩
              · omega
              · go_num
              by_cases hit : i = t
              · subst hit; exact HX.out
              · exact hz.out i (by omega)
            case measure => simp [intOf]; omega
          · have hvb : (v != 0) = true := by simpa using hv
            have HV : Hid (v ≠ 0) := hv
            clear hv
            go_wp2_with fail
            go_returns
            have hall : ((ls.take j).all (· == 0)) = false := by
              rw [List.all_eq_false]
              refine ⟨v, ?_, by simpa using HV.out⟩
              rw [List.mem_take_iff_getElem]
              refine ⟨t, by omega, ?_⟩
              have := HX.out
              rw [List.getD_eq_getElem?_getD, List.getElem?_eq_getElem (by omega)] at this
              simpa using this
            have hE := HE.out
            rw [if_pos hall] at hE
            subst hE
            exact ⟨rfl, trivial, by repeat (first | exact Frm.refl _ _ | apply Frm.drewN)⟩
        · obtain rfl : t = j := by omega
          have hall : ((ls.take t).all (· == 0)) = true := by
            rw [List.all_eq_true]
            intro v hv
            rw [List.mem_take_iff_getElem] at hv
            obtain ⟨i, hi, rfl⟩ := hv
            have := hz.out i (by omega)
            rw [List.getD_eq_getElem?_getD, List.getElem?_eq_getElem (by omega)] at this
            simpa using this
          have HA := hid hall
          clear hall
          go_wp2_with fail
          go_quiet (fail)
          go_wp2_with fail
          go_returns
          have hE := HE.out
          rw [HA.out] at hE
          simp only [Bool.true_eq_false, if_false] at hE
          subst hE
          exact ⟨tup_eq (by show _ = ((t : Nat) : Int); omega), trivial, by repeat (first | exact Frm.refl _ _ | apply Frm.drewN)⟩
set_option maxHeartbeats 400000 in
theorem padR_any (b g pos : Nat) (bs : List Int) (err k : Int) (w : World) (hw : IsR w b g bs pos err) (hk : -9223372036854775808 ≤ k) (hk2 : k ≤ 9223372036854775807) :
    Calls Tryd.prog 64 #[.pointer (some ⟨b, 0, none⟩), .int .i64 k] w fun e w' => e = .returned (.tuple #[]) ∧
      IsR w' b g bs (readS () pos err (padT (bs.drop pos) pos k)).2.1 (readS () pos err (padT (bs.drop pos) pos k)).2.2 ∧ Frm [b] w w' := by
  obtain ⟨hlt, hlg, hbg, hpos, hlen, _⟩ := hw.cells
  have HW := hid hw
  obtain ⟨r, hr⟩ : ∃ r, padT (bs.drop pos) pos k = r := ⟨_, rfl⟩
  have HR := hid hr
  rw [hr]
  clear hw hr
  by_cases he : err = 0
  · subst he
    go_enter Tryd.func64, Tryd.ntmps64
    go_wp2_with fail
    have hF : Frm [] w ((w.alloc (Obj.cells #[Value.pointer (some ⟨b, 0, none⟩)] 93)).alloc (Obj.cells #[Value.int IntKind.i64 k] 3)) := ((Frm.refl _ _).alloc _).alloc _
    obtain ⟨W, hWd⟩ : ∃ W, W = ((w.alloc (Obj.cells #[Value.pointer (some ⟨b, 0, none⟩)] 93)).alloc (Obj.cells #[Value.int IntKind.i64 k] 3)) := ⟨_, rfl⟩
    have hx : W.cell? ⟨w.heap.size + 1, 0, none⟩ = some (.int .i64 k) := by subst hWd; simp
    have hy : W.cell? ⟨w.heap.size, 0, none⟩ = some (.pointer (some ⟨b, 0, none⟩)) := by subst hWd; simp
    rw [← hWd] at hF ⊢
    have hW0 := HW.out.kept hF (by simp) (by simp)
    refine (take_both b g pos r.2.1 r.2.2 bs [] (fun _ => True) 78 _ W hW0 (by simp) (by simp) (by have := padT_len (bs.drop pos) pos k; rw [HR.out] at this; simp at this; omega) (fun l w => callable Tryd.func78 (by kernel_rfl) (by kernel_rfl) _ _) ?_).mono ?_
    · intro o c hc hrd
      have := pad1R_any (w.heap.size + 1) w.heap.size b g o c pos k bs (bs.drop pos) W.drew (hW0.kept ((Frm.refl [] W).drew) (by simp) (by simp)) (by simp; omega) hrd hc.1 hc.2 hk hk2 hx hy
      rw [HR.out] at this
      exact this
    rintro e w' ⟨rfl, w1, h1, h2, h3, h4⟩
    go_wp2_with fail
    go_returns
    rw [readS_ok]
    exact ⟨rfl, h4, ((hF.mono (by simp)).trans h2 (by simp)).trans h3 (fun i hi _ => hi)⟩
  · have HE : Hid (err ≠ 0) := he
    clear he
    go_enter Tryd.func64, Tryd.ntmps64
    go_wp2_with fail
    have hF : Frm [] w ((w.alloc (Obj.cells #[Value.pointer (some ⟨b, 0, none⟩)] 93)).alloc (Obj.cells #[Value.int IntKind.i64 k] 3)) := ((Frm.refl _ _).alloc _).alloc _
    refine (take_stop b g pos err bs _ _ _ (HW.out.kept hF (by simp) (by simp)) HE.out).mono ?_
    rintro e w' ⟨rfl, rfl⟩
    go_wp2_with fail
    go_returns
    unfold readS
    rw [if_pos HE.out]
    exact ⟨rfl, HW.out.kept hF (by simp) (by simp), hF.mono (by simp)⟩
set_option maxHeartbeats 400000 in
theorem left_any (b g pos : Nat) (bs : List Int) (err : Int) (w : World) (hw : IsR w b g bs pos err) :
    Calls Tryd.prog 79 #[.pointer (some ⟨b, 0, none⟩)] w fun e w' => e = .returned (.int .i64 ((bs.length - pos : Nat) : Int)) ∧ ∃ n, w' = w.drewN n := by
  obtain ⟨hlt, hlg, hbg, hpos, hlen, c0, c1, c2, f1, f2, _⟩ := hw.cells
  clear hw
  go_enter Tryd.func79, Tryd.ntmps79
  go_wp2_with fail
  go_quiet (fail)
  go_wp2_with fail
  go_returns
  exact ⟨int_eq (by omega), nq, rfl⟩
def doneS (len pos : Nat) (err : Int) : Int := if err = 0 ∧ pos < len then 13 else err
set_option maxHeartbeats 400000 in
theorem doneR_any (b g pos : Nat) (bs : List Int) (err : Int) (w : World) (hw : IsR w b g bs pos err) :
    Calls Tryd.prog 65 #[.pointer (some ⟨b, 0, none⟩)] w fun e w' => e = .returned (.int .i64 (doneS bs.length pos err)) ∧ ∃ n, w' = w.drewN n := by
  obtain ⟨hlt, hlg, hbg, hpos, hlen, c0, c1, c2, f1, f2, _⟩ := hw.cells
  have HW := hid hw
  clear hw
  by_cases he : err = 0
  · subst he
    by_cases hp : pos < bs.length
    · rw [show doneS bs.length pos 0 = 13 by simp [doneS, hp]]
      go_enter Tryd.func65, Tryd.ntmps65
      go_wp2_with fail
      refine (left_any b g pos bs 0 _ HW.out).mono ?_
      rintro e w' ⟨rfl, n, rfl⟩
      have hpp : (0 : Int) < ((bs.length - pos : Nat) : Int) := by omega
      go_wp2_with fail
      go_returns
      exact ⟨rfl, _, rfl⟩
    · rw [show doneS bs.length pos 0 = 0 by simp [doneS]; omega]
      go_enter Tryd.func65, Tryd.ntmps65
      go_wp2_with fail
      refine (left_any b g pos bs 0 _ HW.out).mono ?_
      rintro e w' ⟨rfl, n, rfl⟩
      have hpp : ¬ (0 : Int) < ((bs.length - pos : Nat) : Int) := by omega
      go_wp2_with fail
      go_returns
      exact ⟨rfl, _, rfl⟩
  · rw [show doneS bs.length pos err = err by simp [doneS, he]]
    have hb : (err == 0) = false := by simpa using he
    have hb2 : (err != 0) = true := by simpa using he
    clear he
    go_enter Tryd.func65, Tryd.ntmps65
    go_wp2_with fail
    go_returns
    exact ⟨rfl, 0, rfl⟩
end Go.Proofs.YtdnnbinmippkdaaDoor
