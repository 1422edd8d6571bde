/- Contracts of package code's reader's methods: Text, Pad, Left, Done. -/
import Derived.Test.YtdfefeljnfcngaaCodeT
namespace Go.Proofs.Ytdfefeljnfcngaa
open Go.RowKit
set_option maxRecDepth 100000

/-- string(b), of bytes that stand somewhere. -/
theorem conv_rd {P : Program} {w : World} (src e dst : TypeId) (hs : P.underlying src = some (.slice e)) (he : P.underlying e = some (.int .u8)) (hd : P.underlying dst = some .string) {g o n : Nat} {zs : List Int} (hrd : Rd w (some ⟨g, o, none⟩) zs) (cap : Nat) (hn : zs.length = n) :
    Sem.run P (convert src dst (.slice (some ⟨g, o, none⟩) n cap)) w = .ok (.string (strOfNums zs)) w := by
  refine run_convert_bytes_arg (P := P) (w := w) src e hs he g o n cap zs hn (fun i hi => ?_) dst hd
  rcases hrd with rfl | ⟨g', o', h, hc⟩
  · simp at hn; omega
  · simp at h; obtain ⟨rfl, rfl⟩ := h; exact hc i (by omega)
/-- A text's reading. -/
def textT (ls : List Int) (most : Int) : List Int × Nat × Int :=
  if ls.length < 2 then ([], 0, 10) else if most < leV (ls.take 2) then ([], 0, 11) else if ls.length < 2 + (leV (ls.take 2)).toNat then ([], 0, 10) else ((ls.drop 2).take (leV (ls.take 2)).toNat, 2 + (leV (ls.take 2)).toNat, 0)
theorem textT_len (ls : List Int) (k : Int) : (textT ls k).2.1 ≤ ls.length := by
  unfold textT
  split
  · simp
  · split
    · simp
    · split
      · simp
      · simp; omega
set_option maxHeartbeats 400000 in
theorem text1R_any (x y g o c : Nat) (k : Int) (ls : List Int) (hb : ∀ z ∈ ls, 0 ≤ z ∧ z < 256) (w : World) (hrd : Rd w (some ⟨g, o, none⟩) ls) (hc : ls.length ≤ c) (hc2 : c ≤ 140737488355328)
    (hk : -9223372036854775808 ≤ k) (hk2 : k ≤ 9223372036854775807) (hx : w.cell? ⟨x, 0, none⟩ = some (.int .i64 k)) (hy : w.cell? ⟨y, 0, none⟩ = some (.string (strOfNums []))) (hyf : w.frozen? ⟨y, 0, none⟩ = false) :
    Calls Try.prog 80 #[.slice (some ⟨g, o, none⟩) ls.length c, .pointer (some ⟨x, 0, none⟩), .pointer (some ⟨y, 0, none⟩)] w (GivesR (textT ls k).2.1 (textT ls k).2.2 [y] (Holds y (.string (strOfNums (textT ls k).1))) w) := by
  have HY : Hid (Holds y (.string (strOfNums [])) w) := hy
  by_cases h1 : ls.length < 2
  · rw [show textT ls k = ([], 0, 10) by unfold textT; rw [if_pos h1]]
    go_enter Try.func80, Try.ntmps80
    go_wp2_with fail
    go_returns
    exact ⟨rfl, HY.out, Frm.refl _ _⟩
  · have hbd := leV_bd (ls.take 2) (fun z hz => hb z (List.mem_of_mem_take hz))
    rw [show (ls.take 2).length = 2 by simp; omega] at hbd
    have HV := hid (fun w' (h : Rd w' (some ⟨g, o, none⟩) ls) => value_any (some ⟨g, o, none⟩) c (ls.take 2) (fun z hz => hb z (List.mem_of_mem_take hz)) (by simp; omega) w' (h.take 2))
    rw [show (ls.take 2).length = 2 by simp; omega] at HV
    have e0 : textT ls k = if k < leV (ls.take 2) then ([], 0, 11) else if ls.length < 2 + (leV (ls.take 2)).toNat then ([], 0, 10) else ((ls.drop 2).take (leV (ls.take 2)).toNat, 2 + (leV (ls.take 2)).toNat, 0) := by unfold textT; rw [if_neg h1]
    rw [e0]
    clear e0
    generalize leV (ls.take 2) = N at hbd HV ⊢
    obtain ⟨n, rfl⟩ := Int.eq_ofNat_of_zero_le hbd.1
    rw [Int.toNat_natCast]
    have hn : n < 65536 := by have := hbd.2; simp at this; omega
    have HRD := hid hrd
    have hyl := World.block_lt_of_cell? w _ hy
    have hxl := World.block_lt_of_cell? w _ hx
    have h1' : 2 ≤ ls.length := by omega
    clear hbd hb hrd h1
    have step : ∀ w1 : World, Frm [] w w1 → w1.cell? ⟨x, 0, none⟩ = some (.int .i64 k) ∧ w1.cell? ⟨y, 0, none⟩ = some (.string (strOfNums [])) ∧ w1.frozen? ⟨y, 0, none⟩ = false := fun w1 hf =>
      ⟨(hf.cell (p := ⟨x, 0, none⟩) hxl (by simp)).trans hx, (hf.cell (p := ⟨y, 0, none⟩) hyl (by simp)).trans hy, (hf.frozen (p := ⟨y, 0, none⟩) hyl (by simp)).trans hyf⟩
    have ST := hid step
    clear step
    by_cases h2 : k < n
    · rw [if_pos h2]
      go_enter Try.func80, Try.ntmps80
      go_wp2_with fail
      refine (HV.out w HRD.out).mono ?_
      rintro e w1 ⟨rfl, hf⟩
      obtain ⟨k1, k2, k3⟩ := ST.out w1 hf
      have K2 := hid k2
      go_wp2_with fail
      go_returns
      exact ⟨rfl, K2.out, hf.mono (by simp)⟩
    · rw [if_neg h2]
      by_cases h3 : ls.length < 2 + n
      · rw [if_pos h3]
        go_enter Try.func80, Try.ntmps80
        go_wp2_with fail
        refine (HV.out w HRD.out).mono ?_
        rintro e w1 ⟨rfl, hf⟩
        obtain ⟨k1, k2, k3⟩ := ST.out w1 hf
        have K2 := hid k2
        go_wp2_with fail
        go_returns
        exact ⟨rfl, K2.out, hf.mono (by simp)⟩
      · rw [if_neg h3]
        have fin : ∀ w1 : World, Frm [] w w1 → w1.cell? ⟨y, 0, none⟩ = some (.string (strOfNums [])) → GivesR (2 + n) 0 [y] (Holds y (.string (strOfNums ((ls.drop 2).take n)))) w (.returned (.tuple #[.int .i64 (2 + n), .int .i64 0])) (w1.setCell ⟨y, 0, none⟩ (.string (strOfNums ((ls.drop 2).take n)))) := fun w1 hf k2 =>
          ⟨by simp, holds_set k2 _, (hf.mono (by simp)).trans ((Frm.refl _ _).setCell _ _ (by simp)) (fun i hi _ => hi)⟩
        have FIN := hid fin
        clear fin
        by_cases h4 : c = 2
        · obtain rfl : n = 0 := by omega
          subst h4
          go_enter Try.func80, Try.ntmps80
          go_wp2_with fail
          refine (HV.out w HRD.out).mono ?_
          rintro e w1 ⟨rfl, hf⟩
          obtain ⟨k1, k2, k3⟩ := ST.out w1 hf
          have K2 := hid k2
          have hcv := conv_rd (P := Try.prog) (w := w1) 22 5 9 Try.underlying22 Try.underlying5 Try.underlying9 (g := g) (o := o) (n := 0) (Or.inl (List.take_zero (l := ls.drop 2))) 0 (by simp)
          go_wp2_with fail
          go_returns
          exact FIN.out w1 hf K2.out
        · have hcv := fun w1 (h : Rd w1 (some ⟨g, o, none⟩) ls) => conv_rd (P := Try.prog) (w := w1) 22 5 9 Try.underlying22 Try.underlying5 Try.underlying9 (n := n) ((h.drop 2).take n) (c - 2) (by simp; omega)
          have HCV := hid hcv
          clear hcv
          go_enter Try.func80, Try.ntmps80
          go_wp2_with fail
          refine (HV.out w HRD.out).mono ?_
          rintro e w1 ⟨rfl, hf⟩
          obtain ⟨k1, k2, k3⟩ := ST.out w1 hf
          have K2 := hid k2
          have hcv := HCV.out w1 (HRD.out.kept hf (by simp))
          go_wp2_with fail
          go_returns
          exact FIN.out w1 hf K2.out
set_option maxHeartbeats 400000 in
theorem textR_any (b g pos : Nat) (bs : List Int) (hb : ∀ z ∈ bs, 0 ≤ z ∧ z < 256) (err k : Int) (w : World) (hw : IsR w b g bs pos err) (hk : -9223372036854775808 ≤ k) (hk2 : k ≤ 9223372036854775807) :
    Calls Try.prog 29 #[.pointer (some ⟨b, 0, none⟩), .int .i64 k] w fun e w' => e = .returned (.string (strOfNums (readS [] pos err (textT (bs.drop pos) k)).1)) ∧
      IsR w' b g bs (readS [] pos err (textT (bs.drop pos) k)).2.1 (readS [] pos err (textT (bs.drop pos) k)).2.2 ∧ Frm [b] w w' := by
  obtain ⟨hlt, hlg, hbg, hpos, hlen, _⟩ := hw.cells
  have HW := hid hw
  have HB := hid hb
  obtain ⟨r, hr⟩ : ∃ r, textT (bs.drop pos) k = r := ⟨_, rfl⟩
  have HR := hid hr
  rw [hr]
  clear hw hb hr
  by_cases he : err = 0
  · subst he
    go_enter Try.func29, Try.ntmps29
    go_wp2_with fail
    have hF : Frm [] w ((w.alloc (Obj.cells #[Value.int IntKind.i64 k] 3)).alloc (Obj.cells #[Value.string { data := #[] }] 9)) := ((Frm.refl _ _).alloc _).alloc _
    obtain ⟨W, hWd⟩ : ∃ W, W = ((w.alloc (Obj.cells #[Value.int IntKind.i64 k] 3)).alloc (Obj.cells #[Value.string { data := #[] }] 9)) := ⟨_, rfl⟩
    have hx : W.cell? ⟨w.heap.size, 0, none⟩ = some (.int .i64 k) := by subst hWd; simp
    have hy : W.cell? ⟨w.heap.size + 1, 0, none⟩ = some (.string (strOfNums [])) := by subst hWd; simp [strOfNums]
    have hyf : W.frozen? ⟨w.heap.size + 1, 0, none⟩ = false := by subst hWd; simp
    rw [← hWd] at hF ⊢
    have hW0 := HW.out.kept hF (by simp) (by simp)
    refine (take_both b g pos r.2.1 r.2.2 bs [w.heap.size + 1] (Holds (w.heap.size + 1) (.string (strOfNums r.1))) 80 _ W hW0 (by simp; omega) (by simp; omega) (by have := textT_len (bs.drop pos) k; rw [HR.out] at this; simp at this; omega) (fun l w => callable Try.func80 (by kernel_rfl) (by kernel_rfl) _ _) ?_).mono ?_
    · intro o c hc hrd
      have := text1R_any w.heap.size (w.heap.size + 1) g o c k (bs.drop pos) (fun z hz => HB.out z (List.mem_of_mem_drop hz)) W.drew hrd hc.1 hc.2 hk hk2 hx hy hyf
      rw [HR.out] at this
      exact this
    rintro e w' ⟨rfl, w1, h1, h2, h3, h4⟩
    have hv := h1.kept h3 (by simp; omega)
    go_wp2_with fail
    go_returns
    rw [readS_ok]
    exact ⟨rfl, h4, two_steps hF h2 h3 (by omega)⟩
  · have HE : Hid (err ≠ 0) := he
    clear he
    go_enter Try.func29, Try.ntmps29
    go_wp2_with fail
    have hF : Frm [] w ((w.alloc (Obj.cells #[Value.int IntKind.i64 k] 3)).alloc (Obj.cells #[Value.string { data := #[] }] 9)) := ((Frm.refl _ _).alloc _).alloc _
    refine (take_stop b g pos err bs _ _ _ (HW.out.kept hF (by simp) (by simp)) HE.out).mono ?_
    rintro e w' ⟨rfl, rfl⟩
    go_wp2_with fail
    go_returns
    unfold readS
    rw [if_pos HE.out]
    exact ⟨rfl, HW.out.kept hF (by simp) (by simp), hF.mono (by simp)⟩
theorem int_eq {a c : Int} (h : a = c) : Ending.returned (.int .i64 a) = Ending.returned (.int .i64 c) := by rw [h]
theorem tup_eq {a c : Int} {v : Value} (h : a = c) : Ending.returned (.tuple #[.int .i64 a, v]) = Ending.returned (.tuple #[.int .i64 c, v]) := by rw [h]
/-- Noughts' reading: of the rest ls at pos, of so many bytes in all. -/
def padT (ls : List Int) (pos : Nat) (to : Int) : Unit × Nat × Int :=
  if to < pos then ((), 0, 11) else if ((pos + ls.length : Nat) : Int) < to then ((), 0, 10) else if ((ls.take (to - pos).toNat).all (· == 0)) = false then ((), 0, 14) else ((), (to - pos).toNat, 0)
theorem padT_len (ls : List Int) (pos : Nat) (k : Int) : (padT ls pos k).2.1 ≤ ls.length := by
  unfold padT
  split
  · simp
  · split
    · simp
    · split
      · simp
      · simp; omega
set_option maxHeartbeats 400000 in
theorem pad1R_any (x y b g o c pos : Nat) (to : Int) (bs ls : List Int) (w : World) (hw : IsR w b g bs pos 0) (hls : pos + ls.length = bs.length) (hrd : Rd w (some ⟨g, o, none⟩) ls) (hc : ls.length ≤ c) (hc2 : c ≤ 140737488355328)
    (hk : -9223372036854775808 ≤ to) (hk2 : to ≤ 9223372036854775807) (hx : w.cell? ⟨x, 0, none⟩ = some (.int .i64 to)) (hy : w.cell? ⟨y, 0, none⟩ = some (.pointer (some ⟨b, 0, none⟩))) :
    Calls Try.prog 81 #[.slice (some ⟨g, o, none⟩) ls.length c, .pointer (some ⟨x, 0, none⟩), .pointer (some ⟨y, 0, none⟩)] w (GivesR (padT ls pos to).2.1 (padT ls pos to).2.2 [] (fun _ => True) w) := by
  obtain ⟨hlt, hlg, hbg, hpos, hlen, c0, c1, c2, f1, f2, _⟩ := hw.cells
  clear hw
  by_cases h1 : to < pos
  · rw [show padT ls pos to = ((), 0, 11) by unfold padT; rw [if_pos h1]]
    go_enter Try.func81, Try.ntmps81
    go_wp2_with fail
    go_quiet (fail)
    go_wp2_with fail
    go_returns
    exact ⟨rfl, trivial, (Frm.refl _ _).drewN _⟩
  · by_cases h2 : ((pos + ls.length : Nat) : Int) < to
    · rw [show padT ls pos to = ((), 0, 10) by unfold padT; rw [if_neg h1, if_pos h2]]
      go_enter Try.func81, Try.ntmps81
      go_wp2_with fail
      go_quiet (fail)
      go_wp2_with fail
      go_quiet (fail)
      go_wp2_with fail
      go_returns
      exact ⟨rfl, trivial, ((Frm.refl _ _).drewN _).drewN _⟩
    · obtain ⟨j, rfl⟩ : ∃ j : Nat, to = ((pos + j : Nat) : Int) := ⟨(to - pos).toNat, by omega⟩
      have hj : j ≤ ls.length := by omega
      have hjc : (j : Int) ≤ (c : Int) := by omega
      have e0 : padT ls pos ((pos + j : Nat) : Int) = if ((ls.take j).all (· == 0)) = false then ((), 0, 14) else ((), j, 0) := by
        unfold padT; rw [if_neg h1, if_neg h2, show (((pos + j : Nat) : Int) - (pos : Int)).toNat = j by omega]
      rw [e0]
      clear e0
      obtain ⟨r, hr⟩ : ∃ r : Unit × Nat × Int, (if ((ls.take j).all (· == 0)) = false then ((), 0, 14) else ((), j, 0)) = r := ⟨_, rfl⟩
      rw [hr]
      have HE := hid hr
      clear hr
      go_enter Try.func81, Try.ntmps81
      go_wp2_with fail
      go_quiet (fail)
      go_wp2_with fail
      go_quiet (fail)
      go_wp2_with fail
      go_quiet (fail)
      go_wp2_with fail
      have HR : Hid (∀ i, i < ls.length → w.cell? ⟨g, o + i, none⟩ = some (.int .u8 (ls.getD i 0))) := by
        intro i hi
        rcases hrd with h | ⟨g', o', h, hcc⟩
        · subst h; simp at hi
        · simp at h; obtain ⟨rfl, rfl⟩ := h; exact hcc i hi
      clear hrd
      go_loop [4, 5, 30] (fun a e i => ∃ t : Nat, t ≤ j ∧ i = .int .i64 t ∧ a = .int .i64 0 ∧ e = .int .i64 0 ∧ Hid (∀ i, i < t → ls.getD i 0 = 0)) (fun _ _ i => j - (intOf i).toNat)
      case atStart => exact ⟨0, Nat.zero_le _, rfl, rfl, rfl, fun i hi => absurd hi (Nat.not_lt_zero _)⟩
      case round =>
        obtain ⟨t, ht, rfl, rfl, rfl, hz⟩ := hrel
        by_cases hlt : t < j
        · have hcell := HR.out t (by omega)
          generalize hx0 : ls.getD t 0 = v at hcell
          have HX := hid hx0
          clear hx0
          by_cases hv : v = 0
          · subst hv
            go_wp2_with fail
            go_round
            case rel =>
              refine ⟨_, _, _, _, ⟨t + 1, ?_, ?_, rfl, rfl, fun i hi => ?_⟩, rfl, rfl, rfl, rfl⟩
              · omega
              · go_num
              by_cases hit : i = t
              · subst hit; exact HX.out
              · exact hz.out i (by omega)
            case measure => simp [intOf]; omega
          · have hvb : (v != 0) = true := by simpa using hv
            have HV : Hid (v ≠ 0) := hv
            clear hv
            go_wp2_with fail
            go_returns
            have hall : ((ls.take j).all (· == 0)) = false := by
              rw [List.all_eq_false]
              refine ⟨v, ?_, by simpa using HV.out⟩
              rw [List.mem_take_iff_getElem]
              refine ⟨t, by omega, ?_⟩
              have := HX.out
              rw [List.getD_eq_getElem?_getD, List.getElem?_eq_getElem (by omega)] at this
              simpa using this
            have hE := HE.out
            rw [if_pos hall] at hE
            subst hE
            exact ⟨rfl, trivial, by repeat (first | exact Frm.refl _ _ | apply Frm.drewN)⟩
        · obtain rfl : t = j := by omega
          have hall : ((ls.take t).all (· == 0)) = true := by
            rw [List.all_eq_true]
            intro v hv
            rw [List.mem_take_iff_getElem] at hv
            obtain ⟨i, hi, rfl⟩ := hv
            have := hz.out i (by omega)
            rw [List.getD_eq_getElem?_getD, List.getElem?_eq_getElem (by omega)] at this
            simpa using this
          have HA := hid hall
          clear hall
          go_wp2_with fail
          go_quiet (fail)
          go_wp2_with fail
          go_returns
          have hE := HE.out
          rw [HA.out] at hE
          simp only [Bool.true_eq_false, if_false] at hE
          subst hE
          exact ⟨tup_eq (by show _ = ((t : Nat) : Int); omega), trivial, by repeat (first | exact Frm.refl _ _ | apply Frm.drewN)⟩
set_option maxHeartbeats 400000 in
theorem padR_any (b g pos : Nat) (bs : List Int) (err k : Int) (w : World) (hw : IsR w b g bs pos err) (hk : -9223372036854775808 ≤ k) (hk2 : k ≤ 9223372036854775807) :
    Calls Try.prog 30 #[.pointer (some ⟨b, 0, none⟩), .int .i64 k] w fun e w' => e = .returned (.tuple #[]) ∧
      IsR w' b g bs (readS () pos err (padT (bs.drop pos) pos k)).2.1 (readS () pos err (padT (bs.drop pos) pos k)).2.2 ∧ Frm [b] w w' := by
  obtain ⟨hlt, hlg, hbg, hpos, hlen, _⟩ := hw.cells
  have HW := hid hw
  obtain ⟨r, hr⟩ : ∃ r, padT (bs.drop pos) pos k = r := ⟨_, rfl⟩
  have HR := hid hr
  rw [hr]
  clear hw hr
  by_cases he : err = 0
  · subst he
    go_enter Try.func30, Try.ntmps30
    go_wp2_with fail
    have hF : Frm [] w ((w.alloc (Obj.cells #[Value.pointer (some ⟨b, 0, none⟩)] 25)).alloc (Obj.cells #[Value.int IntKind.i64 k] 3)) := ((Frm.refl _ _).alloc _).alloc _
    obtain ⟨W, hWd⟩ : ∃ W, W = ((w.alloc (Obj.cells #[Value.pointer (some ⟨b, 0, none⟩)] 25)).alloc (Obj.cells #[Value.int IntKind.i64 k] 3)) := ⟨_, rfl⟩
    have hx : W.cell? ⟨w.heap.size + 1, 0, none⟩ = some (.int .i64 k) := by subst hWd; simp
    have hy : W.cell? ⟨w.heap.size, 0, none⟩ = some (.pointer (some ⟨b, 0, none⟩)) := by subst hWd; simp
    rw [← hWd] at hF ⊢
    have hW0 := HW.out.kept hF (by simp) (by simp)
    refine (take_both b g pos r.2.1 r.2.2 bs [] (fun _ => True) 81 _ W hW0 (by simp) (by simp) (by have := padT_len (bs.drop pos) pos k; rw [HR.out] at this; simp at this; omega) (fun l w => callable Try.func81 (by kernel_rfl) (by kernel_rfl) _ _) ?_).mono ?_
    · intro o c hc hrd
      have := pad1R_any (w.heap.size + 1) w.heap.size b g o c pos k bs (bs.drop pos) W.drew (hW0.kept ((Frm.refl [] W).drew) (by simp) (by simp)) (by simp; omega) hrd hc.1 hc.2 hk hk2 hx hy
      rw [HR.out] at this
      exact this
    rintro e w' ⟨rfl, w1, h1, h2, h3, h4⟩
    go_wp2_with fail
    go_returns
    rw [readS_ok]
    exact ⟨rfl, h4, ((hF.mono (by simp)).trans h2 (by simp)).trans h3 (fun i hi _ => hi)⟩
  · have HE : Hid (err ≠ 0) := he
    clear he
    go_enter Try.func30, Try.ntmps30
    go_wp2_with fail
    have hF : Frm [] w ((w.alloc (Obj.cells #[Value.pointer (some ⟨b, 0, none⟩)] 25)).alloc (Obj.cells #[Value.int IntKind.i64 k] 3)) := ((Frm.refl _ _).alloc _).alloc _
    refine (take_stop b g pos err bs _ _ _ (HW.out.kept hF (by simp) (by simp)) HE.out).mono ?_
    rintro e w' ⟨rfl, rfl⟩
    go_wp2_with fail
    go_returns
    unfold readS
    rw [if_pos HE.out]
    exact ⟨rfl, HW.out.kept hF (by simp) (by simp), hF.mono (by simp)⟩
set_option maxHeartbeats 400000 in
theorem left_any (b g pos : Nat) (bs : List Int) (err : Int) (w : World) (hw : IsR w b g bs pos err) :
    Calls Try.prog 17 #[.pointer (some ⟨b, 0, none⟩)] w fun e w' => e = .returned (.int .i64 ((bs.length - pos : Nat) : Int)) ∧ ∃ n, w' = w.drewN n := by
  obtain ⟨hlt, hlg, hbg, hpos, hlen, c0, c1, c2, f1, f2, _⟩ := hw.cells
  clear hw
  go_enter Try.func17, Try.ntmps17
  go_wp2_with fail
  go_quiet (fail)
  go_wp2_with fail
  go_returns
  exact ⟨int_eq (by omega), nq, rfl⟩
def doneS (len pos : Nat) (err : Int) : Int := if err = 0 ∧ pos < len then 13 else err
set_option maxHeartbeats 400000 in
theorem doneR_any (b g pos : Nat) (bs : List Int) (err : Int) (w : World) (hw : IsR w b g bs pos err) :
    Calls Try.prog 19 #[.pointer (some ⟨b, 0, none⟩)] w fun e w' => e = .returned (.int .i64 (doneS bs.length pos err)) ∧ ∃ n, w' = w.drewN n := by
  obtain ⟨hlt, hlg, hbg, hpos, hlen, c0, c1, c2, f1, f2, _⟩ := hw.cells
  have HW := hid hw
  clear hw
  by_cases he : err = 0
  · subst he
    by_cases hp : pos < bs.length
    · rw [show doneS bs.length pos 0 = 13 by simp [doneS, hp]]
      go_enter Try.func19, Try.ntmps19
      go_wp2_with fail
      refine (left_any b g pos bs 0 _ HW.out).mono ?_
      rintro e w' ⟨rfl, n, rfl⟩
      have hpp : (0 : Int) < ((bs.length - pos : Nat) : Int) := by omega
      go_wp2_with fail
      go_returns
      exact ⟨rfl, _, rfl⟩
    · rw [show doneS bs.length pos 0 = 0 by simp [doneS]; omega]
      go_enter Try.func19, Try.ntmps19
      go_wp2_with fail
      refine (left_any b g pos bs 0 _ HW.out).mono ?_
      rintro e w' ⟨rfl, n, rfl⟩
      have hpp : ¬ (0 : Int) < ((bs.length - pos : Nat) : Int) := by omega
      go_wp2_with fail
      go_returns
      exact ⟨rfl, _, rfl⟩
  · rw [show doneS bs.length pos err = err by simp [doneS, he]]
    have hb : (err == 0) = false := by simpa using he
    have hb2 : (err != 0) = true := by simpa using he
    clear he
    go_enter Try.func19, Try.ntmps19
    go_wp2_with fail
    go_returns
    exact ⟨rfl, 0, rfl⟩
end Go.Proofs.Ytdfefeljnfcngaa
