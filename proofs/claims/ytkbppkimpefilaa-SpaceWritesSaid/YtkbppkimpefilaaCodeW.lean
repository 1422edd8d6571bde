/- Contracts of package code's writer: what each call does to the world. -/
import Derived.Test.YtkbppkimpefilaaRows
import Derived.Test.YtkbppkimpefilaaBase
import Derived.Deep.QuietTactic
import Derived.BigQuiet
namespace Go.Proofs.Ytkbppkimpefilaa
open Go.RowKit
set_option maxRecDepth 100000

theorem infoE : (Try.prog.info? 5).map (fun i => (i.zero, i.size, i.bytes)) = some (some (.int .u8 0), 1, 1) := by kernel_rfl

/-- A writer at block b: its room, what was laid down, its error; fp: the blocks that are its own. -/
def IsW (w : World) (b : Nat) (fp : List Nat) (room : Int) (zs : List Int) (err : Int) : Prop :=
  ∃ p c, w.heap[b]? = some (.cells #[.int .i64 room, .slice p zs.length c, .int .i64 err] 131 (0, 0)) ∧ Own w 5 (.slice p zs.length c) zs ∧ fp = b :: blk p ∧ b ∉ blk p

theorem IsW.kept {w w' : World} {b : Nat} {fp S : List Nat} {room err : Int} {zs : List Int} (h : IsW w b fp room zs err) (hf : Frm S w w') (hn : ∀ k ∈ fp, k ∉ S) : IsW w' b fp room zs err := by
  obtain ⟨p, c, h1, h2, rfl, h4⟩ := h
  exact ⟨p, c, hf.heap h1 (hn b (by simp)), h2.kept hf (fun k hk => hn k (by rw [own_blk] at hk; simp [hk])), rfl, h4⟩
theorem IsW.lt {w : World} {b : Nat} {fp : List Nat} {room err : Int} {zs : List Int} (h : IsW w b fp room zs err) : ∀ k ∈ fp, k < w.heap.size := by
  obtain ⟨p, c, h1, h2, rfl, h4⟩ := h
  intro k hk
  simp at hk
  rcases hk with rfl | hk
  · exact lt_of_heap h1
  · exact (h2.lt k (by cases p <;> simp_all [blk, Value.ownBlock])).2

/-- What room a writer gets. -/
def roomOf (a : Int) : Int := if a < 0 then 0 else if 2147483647 < a then 2147483647 else a
set_option maxHeartbeats 400000 in
theorem newWriter_any (a : Int) (w : World) :
    Calls Try.prog 46 #[.int .i64 a] w fun e w' => e = .returned (.pointer (some ⟨w.heap.size, 0, none⟩)) ∧ IsW w' w.heap.size [w.heap.size] (roomOf a) [] 0 ∧ Frm [] w w' ∧ w'.heap.size = w.heap.size + 1 := by
  have fin : ∀ r : Int, roomOf a = r → (∀ W, W = w.alloc (.cells #[.int .i64 r, .slice none 0 0, .int .i64 0] 131) → IsW W w.heap.size [w.heap.size] (roomOf a) [] 0 ∧ Frm [] w W ∧ W.heap.size = w.heap.size + 1) := by
    intro r hr W hW; subst hW; subst hr
    exact ⟨⟨none, 0, heap_alloc_new _ _, Own.nil _ _, rfl, by simp [blk]⟩, (Frm.refl _ _).alloc _, by simp⟩
  go_enter Try.func46, Try.ntmps46
  by_cases h0 : a < 0
  · go_wp2
    go_ret
    exact ⟨rfl, fin 0 (by unfold roomOf; rw [if_pos h0]) _ rfl⟩
  · by_cases h1 : 2147483647 < a
    · go_wp2
      go_ret
      exact ⟨rfl, fin _ (by unfold roomOf; rw [if_neg (by omega), if_pos h1]) _ rfl⟩
    · go_wp2
      go_ret
      exact ⟨rfl, fin _ (by unfold roomOf; rw [if_neg (by omega), if_neg (by omega)]) _ rfl⟩

set_option maxHeartbeats 400000 in
theorem number_any (n : Int) (k : Nat) (_hn : 0 ≤ n) (_hn2 : n < 18446744073709551616) (hk : k ≤ 8) (w : World) :
    Calls Try.prog 84 #[.int .u64 n, .int .i64 k] w fun e w' => e = .returned (.slice (some ⟨w.heap.size, 0, none⟩) k k) ∧ w'.heap[w.heap.size]? = some (.cells (bv (le n k)).toArray 5 (0, 0)) ∧ Frm [] w w' := by
  have hmk := run_make_row' (P := Try.prog) 25 5 (.int .u8 0) 1 Try.underlying25 infoE rfl .i64 .i64 k (by omega) (by omega)
  go_enter Try.func84, Try.ntmps84
  go_wp2
  go_loopw [11] (fun i wr => ∃ j : Nat, j ≤ k ∧ i = .int .i64 j ∧ Hid (wr.heap[w.heap.size]? = some (.cells (bv (le n j) ++ List.replicate (k - j) (Value.int .u8 0)).toArray 5 (0, 0))) ∧ Hid (Frm [] w wr)) (fun i _ => k - (intOf i).toNat)
  case atStart =>
    refine ⟨0, Nat.zero_le _, rfl, ?_, (Frm.refl _ _).alloc _⟩
    show _ = _
    rw [heap_alloc_new]
    congr 2
    apply Array.ext'
    simp [toList_madeCells_one, bv, le]
  case round =>
    obtain ⟨j, hj, rfl, hcur, hfr⟩ := hrel
    by_cases hlt : j < k
    · have hc : wr.cell? ⟨w.heap.size, j, none⟩ = some (.int .u8 0) := by
        rw [cell_of_row wr _ j _ _ (0,0) hcur.out]
        have h := get_mid (bv (le n j)) (k - j) (Value.int .u8 0) (by omega)
        rw [bv_length, le_length] at h
        simpa using h
      have hf := frozen_of_row wr w.heap.size j _ _ hcur.out
      go_wp2
      go_roundw
      case rel =>
        refine ⟨j + 1, by omega, by go_num, ?_, hfr.out.setCell _ _ (by simp)⟩
        show _ = _
        rw [heap_setCell_same wr w.heap.size j _ _ _ hcur.out]
        congr 2
        apply Array.ext'
        have e1 : k - j = (k - (j + 1)) + 1 := by omega
        have h := set_mid (bv (le n j)) (k - (j + 1)) (Value.int .u8 0) (Value.int .u8 (n / 2 ^ (8 * j) % 256))
        rw [bv_length, le_length, ← e1] at h
        rw [le_succ, bv_append]
        simpa [bv] using h
      case measure => simp [intOf]; omega
    · obtain rfl : j = k := by omega
      go_wp2
      go_ret
      exact ⟨rfl, by simpa using hcur.out, hfr.out⟩

theorem IsW.cells {w : World} {b : Nat} {fp : List Nat} {room err : Int} {zs : List Int} (h : IsW w b fp room zs err) : ∃ p c, b < w.heap.size ∧ fp = b :: blk p ∧ b ∉ blk p ∧ Own w 5 (.slice p zs.length c) zs ∧
    w.cell? ⟨b, 0, none⟩ = some (.int .i64 room) ∧ w.cell? ⟨b, 1, none⟩ = some (.slice p zs.length c) ∧ w.cell? ⟨b, 2, none⟩ = some (.int .i64 err) ∧
    w.frozen? ⟨b, 1, none⟩ = false ∧ w.frozen? ⟨b, 2, none⟩ = false ∧ Hid (w.heap[b]? = some (.cells #[.int .i64 room, .slice p zs.length c, .int .i64 err] 131 (0, 0))) := by
  obtain ⟨p, c, h1, h2, h3, h4⟩ := h
  exact ⟨p, c, lt_of_heap h1, h3, h4, h2, by rw [cell_of_row w _ _ _ _ _ h1]; rfl, by rw [cell_of_row w _ _ _ _ _ h1]; rfl, by rw [cell_of_row w _ _ _ _ _ h1]; rfl, frozen_of_row w b 1 _ _ h1, frozen_of_row w b 2 _ _ h1, h1⟩
/-- What a writer is behind a call. -/
def NowW (w : World) (b : Nat) (fp : List Nat) (room : Int) (zs : List Int) (err : Int) (w' : World) : Prop :=
  ∃ fp', IsW w' b fp' room zs err ∧ Frm fp w w' ∧ ∀ k ∈ fp', k ∈ fp ∨ w.heap.size ≤ k
/-- What a form gives: an error, or bytes. -/
def Gives (ns : List Int) (ev : Int) (w : World) (e : Ending) (w1 : World) : Prop :=
  ∃ p n c, e = .returned (.tuple #[.slice p n c, .int .i64 ev]) ∧ Frm [] w w1 ∧ (ev = 0 → n = ns.length ∧ (ns = [] → p = none → c = 0) ∧ Rd w1 p ns)

theorem NowW.same {w w' : World} {b : Nat} {fp : List Nat} {room err : Int} {zs : List Int} (h : IsW w b fp room zs err) (hf : Frm [] w w') : NowW w b fp room zs err w' :=
  ⟨fp, h.kept hf (by simp), hf.mono (by simp), fun _ hk => Or.inl hk⟩
theorem NowW.err {w w1 : World} {b : Nat} {fp : List Nat} {room err : Int} {zs : List Int} (h : IsW w b fp room zs err) (hf : Frm [] w w1) (ev : Int) : NowW w b fp room zs ev (w1.setCell ⟨b, 2, none⟩ (.int .i64 ev)) := by
  obtain ⟨p, c, h1, h2, rfl, h4⟩ := h
  have g := hf.heap h1 (by simp)
  have hF : Frm [b] w1 (w1.setCell ⟨b, 2, none⟩ (.int .i64 ev)) := (Frm.refl _ _).setCell _ _ (by simp)
  refine ⟨_, ⟨p, c, ?_, (h2.kept hf (by simp)).kept hF (by rw [own_blk]; intro k hk; simp; rintro rfl; exact h4 hk), rfl, h4⟩, (hf.mono (by simp)).trans hF (by simp), fun _ hk => Or.inl hk⟩
  rw [heap_setCell_same w1 b 2 _ _ _ g]; rfl

theorem NowW.app {w w1 w2 : World} {b : Nat} {fp : List Nat} {room : Int} {zs xs : List Int} {p p2 : Option Addr} {c c2 : Nat} (hh : w.heap[b]? = some (.cells #[.int .i64 room, .slice p zs.length c, .int .i64 0] 131 (0, 0)))
    (hfp : fp = b :: blk p) (hnb : b ∉ blk p) (hF : Frm [] w w1) (ho : Own w2 5 (.slice p2 xs.length c2) xs) (hF2 : Frm (blk p) w1 w2) (hfr : ∀ k ∈ blk p2, k ∈ blk p ∨ w1.heap.size ≤ k) :
    NowW w b fp room xs 0 (w2.setCell ⟨b, 1, none⟩ (.slice p2 xs.length c2)) := by
  subst hfp
  have hb := lt_of_heap hh
  have hb1 := Nat.lt_of_lt_of_le hb hF.size
  have g := hF2.heap (hF.heap hh (by simp)) hnb
  have hnb2 : b ∉ blk p2 := fun h => by rcases hfr b h with h | h; exact hnb h; omega
  have hF3 : Frm [b] w2 (w2.setCell ⟨b, 1, none⟩ (.slice p2 xs.length c2)) := (Frm.refl _ _).setCell _ _ (by simp)
  refine ⟨b :: blk p2, ⟨p2, c2, ?_, ho.kept hF3 (by rw [own_blk]; intro k hk; simp; rintro rfl; exact hnb2 hk), rfl, hnb2⟩, ?_, ?_⟩
  · rw [heap_setCell_same w2 b 1 _ _ _ g]; rfl
  · exact ((hF.mono (T := b :: blk p) (by simp)).trans hF2 (by intro i hi _; simp [hi])).trans hF3 (by simp)
  · intro k hk
    simp at hk ⊢
    rcases hk with rfl | hk
    · exact Or.inl (Or.inl rfl)
    · rcases hfr k hk with h | h
      · exact Or.inl (Or.inr h)
      · exact Or.inr (Nat.le_trans hF.size h)
section
variable (b : Nat) (fp : List Nat) (room err : Int) (zs ns : List Int) (ev : Int) (f : FuncId) (cap : Array Value) (w : World)
set_option maxHeartbeats 400000 in
theorem lay_stop (fn : Fn) (hw : IsW w b fp room zs err) (he : err ≠ 0) :
    Calls Try.prog 82 #[.pointer (some ⟨b, 0, none⟩), .func fn #[] cap] w fun e w' => e = .returned (.tuple #[]) ∧ NowW w b fp room zs err w' := by
  obtain ⟨p, c, _, _, _, _, c0, c1, c2, f1, f2, _⟩ := hw.cells
  have HE : Hid (err ≠ 0) := he
  have HW : Hid (IsW w b fp room zs err) := hw
  have hb : (err != 0) = true := by simpa using he
  clear he hw
  go_enter Try.func82, Try.ntmps82
  go_wp2_with fail
  go_returns
  exact ⟨rfl, NowW.same HW.out (Frm.refl _ _)⟩
set_option maxHeartbeats 400000 in
theorem lay_err (hw : IsW w b fp room zs 0) (he : ev ≠ 0) (hcf : ∀ w, Sem.run Try.prog (callFunc f cap) w = .ok (.enter f cap) w)
    (hform : Calls Try.prog f cap w (Gives ns ev w)) :
    Calls Try.prog 82 #[.pointer (some ⟨b, 0, none⟩), .func (.func f) #[] cap] w fun e w' => e = .returned (.tuple #[]) ∧ NowW w b fp room zs ev w' := by
  obtain ⟨p, c, hlt, _, _, _, c0, c1, c2, f1, f2, _⟩ := hw.cells
  have HW : Hid (IsW w b fp room zs 0) := hw
  have hb : (ev != 0) = true := by simpa using he
  have hb2 : (ev == 0) = false := by simpa using he
  clear hw he
  go_enter Try.func82, Try.ntmps82
  go_wp2_with fail
  refine hform.mono ?_
  rintro e w1 ⟨p', n', c', rfl, hF, _⟩
  have k0 := (hF.cell (p := ⟨b, 0, none⟩) hlt (by simp)).trans c0
  have k1 := (hF.cell (p := ⟨b, 1, none⟩) hlt (by simp)).trans c1
  have k2 := (hF.cell (p := ⟨b, 2, none⟩) hlt (by simp)).trans c2
  have q2 := (hF.frozen (p := ⟨b, 2, none⟩) hlt (by simp)).trans f2
  go_wp2_with fail
  go_quiet (fail)
  go_wp2_with fail
  go_returns
  exact ⟨rfl, NowW.err HW.out (hF.drewN nq) ev⟩
set_option maxHeartbeats 400000 in
theorem lay_full (hw : IsW w b fp room zs 0) (_hr0 : 0 ≤ room) (_hr1 : room ≤ 2147483647) (hz : (zs.length : Int) ≤ room) (hfull : room - zs.length < ns.length) (hm : ns.length ≤ 140737488355328) (hcf : ∀ w, Sem.run Try.prog (callFunc f cap) w = .ok (.enter f cap) w)
    (hform : Calls Try.prog f cap w (Gives ns 0 w)) :
    Calls Try.prog 82 #[.pointer (some ⟨b, 0, none⟩), .func (.func f) #[] cap] w fun e w' => e = .returned (.tuple #[]) ∧ NowW w b fp room zs 12 w' := by
  obtain ⟨p, c, hlt, _, _, _, c0, c1, c2, f1, f2, _⟩ := hw.cells
  have HW : Hid (IsW w b fp room zs 0) := hw
  clear hw
  go_enter Try.func82, Try.ntmps82
  go_wp2_with fail
  refine hform.mono ?_
  rintro e w1 ⟨p', n', c', rfl, hF, hG⟩
  obtain ⟨rfl, _, _⟩ := hG rfl
  have k0 := (hF.cell (p := ⟨b, 0, none⟩) hlt (by simp)).trans c0
  have k1 := (hF.cell (p := ⟨b, 1, none⟩) hlt (by simp)).trans c1
  have k2 := (hF.cell (p := ⟨b, 2, none⟩) hlt (by simp)).trans c2
  have q2 := (hF.frozen (p := ⟨b, 2, none⟩) hlt (by simp)).trans f2
  clear hG
  go_wp2_with fail
  go_quiet (fail)
  go_wp2_with fail
  go_returns
  exact ⟨rfl, NowW.err HW.out (hF.drewN nq) 12⟩
set_option maxHeartbeats 400000 in
theorem lay_ok (hw : IsW w b fp room zs 0) (hr0 : 0 ≤ room) (hr1 : room ≤ 2147483647) (hz : (zs.length : Int) ≤ room) (hfull : ns.length ≤ room - zs.length) (hcf : ∀ w, Sem.run Try.prog (callFunc f cap) w = .ok (.enter f cap) w)
    (hform : Calls Try.prog f cap w (Gives ns 0 w)) :
    Calls Try.prog 82 #[.pointer (some ⟨b, 0, none⟩), .func (.func f) #[] cap] w fun e w' => e = .returned (.tuple #[]) ∧ NowW w b fp room (zs ++ ns) 0 w' := by
  obtain ⟨p, c, hlt, hfp, hnb, hown, c0, c1, c2, f1, f2, hh⟩ := hw.cells
  have HF : Hid (fp = b :: blk p) := hfp
  clear hw hfp
  go_enter Try.func82, Try.ntmps82
  go_wp2_with fail
  refine hform.mono ?_
  rintro e w1 ⟨p', n', c', rfl, hF, hG⟩
  obtain ⟨rfl, hpc, hrd⟩ := hG rfl
  have k0 := (hF.cell (p := ⟨b, 0, none⟩) hlt (by simp)).trans c0
  have k1 := (hF.cell (p := ⟨b, 1, none⟩) hlt (by simp)).trans c1
  have k2 := (hF.cell (p := ⟨b, 2, none⟩) hlt (by simp)).trans c2
  have hown1 := hown.kept hF (by simp)
  have hlt1 := Nat.lt_of_lt_of_le hlt hF.size
  clear hG
  go_wp2_with fail
  go_quiet (fail)
  have HP : Hid (ns = [] → p' = none → c' = 0) := hpc
  clear hpc
  go_wp2_with (at_builtin; refine wpList_appB rfl _ _ 25 rfl 5 Try.underlying25 infoE p _ c zs rfl rfl (hown1.kept ((Frm.refl [] _).drewN nq) (by simp)) p' ns.length c' ns rfl rfl HP.out (hrd.drewN nq) (by omega) ?_)
  intro xs p2 c2' w2 hxs ho hF2 hfresh
  have m1 := (hF2.out.cell (p := ⟨b, 1, none⟩) hlt1 hnb).trans k1
  have q1 := (hF2.out.frozen (p := ⟨b, 1, none⟩) hlt1 hnb).trans ((hF.frozen (p := ⟨b, 1, none⟩) hlt (by simp)).trans f1)
  have HR := hid (NowW.app hh.out HF.out hnb (hF.drewN nq) ho.out hF2.out hfresh.out)
  go_wp2_with fail
  go_returns
  have := HR.out
  rw [hxs.out] at this
  exact ⟨rfl, by rw [hxs.out]; exact this⟩
end

/-- What a call makes of a writer's state: what was laid down, and its error. -/
def stepW (room : Int) (s : List Int × Int) (g : List Int × Int) : List Int × Int :=
  if s.2 ≠ 0 then s else if g.2 ≠ 0 then (s.1, g.2) else if room - s.1.length < g.1.length then (s.1, 12) else (s.1 ++ g.1, 0)
theorem lay_any (b : Nat) (fp : List Nat) (room : Int) (s g : List Int × Int) (f : FuncId) (cap : Array Value) (w : World) (hw : IsW w b fp room s.1 s.2) (hr0 : 0 ≤ room) (hr1 : room ≤ 2147483647) (hz : (s.1.length : Int) ≤ room) (hm : g.1.length ≤ 140737488355328)
    (hcf : ∀ w, Sem.run Try.prog (callFunc f cap) w = .ok (.enter f cap) w) (hform : Calls Try.prog f cap w (Gives g.1 g.2 w)) :
    Calls Try.prog 82 #[.pointer (some ⟨b, 0, none⟩), .func (.func f) #[] cap] w fun e w' => e = .returned (.tuple #[]) ∧ NowW w b fp room (stepW room s g).1 (stepW room s g).2 w' := by
  obtain ⟨zs, err⟩ := s
  obtain ⟨ns, ev⟩ := g
  unfold stepW
  by_cases he : err = 0
  · subst he
    by_cases hev : ev = 0
    · subst hev
      by_cases hf : room - zs.length < ns.length
      · simp only [ne_eq, not_true, if_false, if_pos hf]
        exact lay_full b fp room zs ns f cap w hw hr0 hr1 hz hf hm hcf hform
      · simp only [ne_eq, not_true, if_false, if_neg hf]
        exact lay_ok b fp room zs ns f cap w hw hr0 hr1 hz (by omega) hcf hform
    · simp only [ne_eq, not_true, if_false, hev, not_false_eq_true, if_true]
      exact lay_err b fp room zs ns ev f cap w hw hev hcf hform
  · simp only [ne_eq, he, not_false_eq_true, if_true]
    exact lay_stop b fp room err zs cap w (.func f) hw he
theorem NowW.after {w w0 w' : World} {b : Nat} {fp : List Nat} {room err : Int} {zs : List Int} (hf : Frm [] w w0) (h : NowW w0 b fp room zs err w') : NowW w b fp room zs err w' := by
  obtain ⟨fp', h1, h2, h3⟩ := h
  exact ⟨fp', h1, (hf.mono (by simp)).trans h2 (fun i hi _ => hi), fun k hk => (h3 k hk).imp id (fun h => Nat.le_trans hf.size h)⟩
end Go.Proofs.Ytkbppkimpefilaa
