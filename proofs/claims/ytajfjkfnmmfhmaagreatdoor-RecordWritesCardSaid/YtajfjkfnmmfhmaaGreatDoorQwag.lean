/- One SHA-256: the program's tail and the document's padded bytes. Contracts of package sum: Of and Check of any kind. Small laws: The statement CodeCut: plain facts and the walk. Records: numbers, bytes and texts that fit, laid down by the program's writer. Records, the document's side: a number and a text behind bytes. Records: parts of names, on both sides. Records: a property's value; numbers within bounds; numbers that rise. -/
import Derived.Test.YtajfjkfnmmfhmaaGreatDoorQwaf
import Derived.Test.YtajfjkfnmmfhmaaGreatDoorQwad
import Derived.Test.YtajfjkfnmmfhmaaGreatDoorQwaa
import Derived.Test.YtajfjkfnmmfhmaaGreatDoorQwac
import Derived.WalkKit
import Derived.WalkSpells
import Derived.WalkLawsBesides
import Derived.Handy
import Derived.Deep.OwnRows
import Derived.Laws.BytesArg
import Derived.Laws.CopyOwn
import Derived.Lib.AppendStr
import Derived.Laws.BitsAllLaws
import Derived.BigQuiet
import Derived.Deep.RegionHeld3
import Derived.StillTailTactics
import Derived.BigRegion
import Derived.Test.YtajfjkfnmmfhmaaGreatDoorRows
import Derived.Laws.OwnMore
import Derived.Deep.QuietTactic
import Derived.Deep.Cut
namespace Go.Proofs.YtajfjkfnmmfhmaaGreatDoor
section
open Go.RowKit
set_option maxRecDepth 100000
theorem at_take (zs : List Int) (m i : Nat) (h : i < m) : zA (zs.take m) i = zA zs i := by
  simp [zA, List.getD_eq_getElem?_getD, h]
theorem at_drop (zs : List Int) (m i : Nat) : zA (zs.drop m) i = zA zs (m + i) := by
  simp [zA, List.getD_eq_getElem?_getD, List.getElem?_drop]
theorem at_set (T : List Int) (j i : Nat) (z : Int) (h : j < T.length) : zA (T.set j z) i = if i = j then z else zA T i := by
  unfold zA
  rw [List.getD_eq_getElem?_getD, List.getD_eq_getElem?_getD, List.getElem?_set]
  by_cases e : j = i
  · subst e; simp [h]
  · rw [if_neg e, if_neg (fun h => e h.symm)]
theorem at_app (a b : List Int) (i : Nat) : zA (a ++ b) i = if i < a.length then zA a i else zA b (i - a.length) := by
  unfold zA
  rw [List.getD_eq_getElem?_getD, List.getElem?_append]
  split <;> rw [List.getD_eq_getElem?_getD]
theorem at_rep (n i : Nat) : zA (List.replicate n 0) i = 0 := by
  simp only [zA, List.getD_eq_getElem?_getD, List.getElem?_replicate]
  split <;> rfl
theorem ext_at {a b : List Int} (hl : a.length = b.length) (h : ∀ i, i < a.length → zA a i = zA b i) : a = b := by
  refine List.ext_getElem hl fun i h1 h2 => ?_
  have := h i h1
  simpa [zA, List.getD_eq_getElem?_getD, h1, h2] using this
theorem wA_take (zs : List Int) (t : Nat) (h : t ≤ 16) : wA (zs.take 64) t = wA zs t := by
  induction t with
  | zero => rfl
  | succ t ih => simp only [wA]; rw [ih (by omega), at_take _ _ _ (by omega), at_take _ _ _ (by omega), at_take _ _ _ (by omega), at_take _ _ _ (by omega)]
theorem blockV_take (v : V8) (zs : List Int) : blockV v (zs.take 64) = blockV v zs := by
  unfold blockV
  rw [wA_take _ _ (Nat.le_refl _)]
theorem tlE_length (n E : Nat) (T : List Int) (i : Nat) : (tlE n E T i).length = T.length := by
  induction i with
  | zero => rfl
  | succ i ih => simp [tlE, ih]
theorem at_tlE (n E : Nat) (T : List Int) (i j : Nat) (hE : E < T.length) (hi : i ≤ 8) (h8 : 8 ≤ E) : zA (tlE n E T i) j = if E < j + i ∧ j ≤ E then lenC n (E - j) else zA T j := by
  induction i with
  | zero => rw [if_neg (by omega)]; rfl
  | succ i ih =>
    show zA ((tlE n E T i).set (E - i) (lenC n i)) j = _
    rw [at_set _ _ _ _ (by rw [tlE_length]; omega), ih (by omega)]
    by_cases h : j = E - i
    · rw [if_pos h, if_pos (by omega), show E - j = i by omega]
    · rw [if_neg h]
      by_cases h2 : E < j + i ∧ j ≤ E
      · rw [if_pos h2, if_pos (by omega)]
      · rw [if_neg h2, if_neg (by omega)]
theorem at_lenL (n t s : Nat) (h : s < t) : zA (lenL n t) s = lenC n (7 - s) := by
  induction t with
  | zero => omega
  | succ t ih =>
    show zA (lenL n t ++ [lenC n (7 - t)]) s = _
    rw [at_app, lenL_length]
    by_cases h2 : s < t
    · rw [if_pos h2, ih h2]
    · rw [if_neg h2, show s = t by omega, Nat.sub_self]; rfl
theorem padD_length (zs : List Int) : (padD zs).length = zs.length + 1 + gapN (zs.length + 1) + 8 := by
  simp [padD, lenL_length]; omega
theorem at_pad (zs : List Int) (i : Nat) : zA (padD zs) i = if i < zs.length then zA zs i else if i = zs.length then 128 else if i < zs.length + 1 + gapN (zs.length + 1) then 0 else zA (lenL zs.length 8) (i - (zs.length + 1 + gapN (zs.length + 1))) := by
  unfold padD
  rw [at_app]
  simp only [List.length_append, List.length_replicate, List.length_cons, List.length_nil, Nat.zero_add]
  by_cases h1 : i < zs.length + 1 + gapN (zs.length + 1)
  · rw [if_pos h1, at_app]
    simp only [List.length_append, List.length_cons, List.length_nil, Nat.zero_add]
    by_cases h2 : i < zs.length + 1
    · rw [if_pos h2, at_app]
      by_cases h3 : i < zs.length
      · rw [if_pos h3, if_pos h3]
      · rw [if_neg h3, if_neg h3, if_pos (by omega), show i - zs.length = 0 by omega]; rfl
    · rw [if_neg h2, at_rep, if_neg (by omega), if_neg (by omega), if_pos h1]
  · rw [if_neg h1, if_neg (by omega), if_neg (by omega), if_neg h1]
/-- The eight words behind k blocks of padded bytes. -/
def blksD (v : V8) (ps : List Int) : Nat → V8
  | 0 => v
  | k + 1 => blockV (blksD v ps k) ((ps.drop (64 * k)).take 64)
def shaD (zs : List Int) : S4 := sumV (blksD H0 (padD zs) ((padD zs).length / 64))
theorem blks_same (v : V8) (zs : List Int) (k : Nat) (h : 64 * k ≤ zs.length) : blksD v (padD zs) k = blksV v zs k := by
  induction k with
  | zero => rfl
  | succ k ih =>
    show blockV (blksD v (padD zs) k) _ = blockV (blksV v zs k) _
    rw [ih (by omega), ← blockV_take _ (zs.drop (64 * k))]
    congr 1
    refine ext_at (by simp [padD_length]; omega) fun i hi => ?_
    have hi' : i < 64 := by rw [List.length_take] at hi; omega
    rw [at_take _ _ _ hi', at_take _ _ _ hi', at_drop, at_drop, at_pad, if_pos (by omega)]
theorem at_tail (n E : Nat) (ms : List Int) (j : Nat) (hE : E < 128) (h8 : 8 ≤ E) (hm : ms.length < 128) : zA (tailE n E ms) j = if E < j + 8 ∧ j ≤ E then lenC n (E - j) else if j = ms.length then 128 else if j < ms.length then zA ms j else 0 := by
  unfold tailE
  have hl : (ms ++ List.replicate (128 - ms.length) 0).length = 128 := by simp; omega
  rw [at_tlE _ _ _ _ _ (by rw [List.length_set, hl]; exact hE) (Nat.le_refl _) h8, at_set _ _ _ _ (by rw [hl]; exact hm), at_app, at_rep]
theorem tail_length (n E : Nat) (ms : List Int) (hm : ms.length < 128) : (tailE n E ms).length = 128 := by
  unfold tailE
  rw [tlE_length]
  simp; omega
theorem sha_same (zs : List Int) : shaA zs = shaD zs := by
  unfold shaA shaD
  generalize hn : zs.length = n
  have hk : 64 * (n / 64) ≤ zs.length := by omega
  have hms : (zs.drop (64 * (n / 64))).length = n % 64 := by rw [List.length_drop]; omega
  rw [padD_length, hn]
  by_cases h : n % 64 < 56
  · have hg : gapN (n + 1) = 55 - n % 64 := by unfold gapN; omega
    rw [if_pos h, show (n + 1 + gapN (n + 1) + 8) / 64 = n / 64 + 1 by omega]
    unfold shaLo
    congr 1
    show _ = blockV (blksD H0 (padD zs) (n / 64)) _
    rw [blks_same _ _ _ hk]
    congr 1
    refine ext_at (by rw [List.length_take, List.length_take, tail_length _ _ _ (by omega), List.length_drop, padD_length, hn]; omega) fun j hj => ?_
    have hj' : j < 64 := by rw [List.length_take] at hj; omega
    rw [at_take _ _ _ hj', at_take _ _ _ hj', at_drop, at_tail _ _ _ _ (by omega) (by omega) (by omega), at_pad, hn, hms, at_drop]
    by_cases a1 : 63 < j + 8 ∧ j ≤ 63
    · rw [if_pos a1, if_neg (by omega), if_neg (by omega), if_neg (by omega), at_lenL _ _ _ (by omega)]
      congr 1; omega
    · rw [if_neg a1]
      by_cases a2 : j = n % 64
      · rw [if_pos a2, if_neg (by omega), if_pos (by omega)]
      · rw [if_neg a2]
        by_cases a3 : j < n % 64
        · rw [if_pos a3, if_pos (by omega)]
        · rw [if_neg a3, if_neg (by omega), if_neg (by omega), if_pos (by omega)]
  · have hg : gapN (n + 1) = 119 - n % 64 := by unfold gapN; omega
    rw [if_neg h, show (n + 1 + gapN (n + 1) + 8) / 64 = n / 64 + 1 + 1 by omega]
    unfold shaHi
    congr 1
    show _ = blockV (blockV (blksD H0 (padD zs) (n / 64)) _) _
    rw [blks_same _ _ _ hk]
    have key : ∀ j, j < 128 → zA (tailE n 127 (zs.drop (64 * (n / 64)))) j = zA (padD zs) (64 * (n / 64) + j) := fun j hj => by
      rw [at_tail _ _ _ _ (by omega) (by omega) (by omega), at_pad, hn, hms, at_drop]
      by_cases a1 : 127 < j + 8 ∧ j ≤ 127
      · rw [if_pos a1, if_neg (by omega), if_neg (by omega), if_neg (by omega), at_lenL _ _ _ (by omega)]
        congr 1; omega
      · rw [if_neg a1]
        by_cases a2 : j = n % 64
        · rw [if_pos a2, if_neg (by omega), if_pos (by omega)]
        · rw [if_neg a2]
          by_cases a3 : j < n % 64
          · rw [if_pos a3, if_pos (by omega)]
          · rw [if_neg a3, if_neg (by omega), if_neg (by omega), if_pos (by omega)]
    have hTL := tail_length n 127 (zs.drop (64 * (n / 64))) (by omega)
    have e1 : (tailE n 127 (zs.drop (64 * (n / 64)))).take 64 = ((padD zs).drop (64 * (n / 64))).take 64 := by
      refine ext_at (by rw [List.length_take, List.length_take, hTL, List.length_drop, padD_length, hn]; omega) fun j hj => ?_
      have hj' : j < 64 := by rw [List.length_take] at hj; omega
      rw [at_take _ _ _ hj', at_take _ _ _ hj', at_drop, key _ (by omega)]
    have e2 : (tailE n 127 (zs.drop (64 * (n / 64)))).drop 64 = ((padD zs).drop (64 * (n / 64 + 1))).take 64 := by
      refine ext_at (by rw [List.length_take, List.length_drop, hTL, List.length_drop, padD_length, hn]; omega) fun j hj => ?_
      have hj' : j < 64 := by rw [List.length_drop, hTL] at hj; omega
      rw [at_take _ _ _ hj', at_drop, at_drop, key _ (by omega)]
      congr 1; omega
    rw [e1, e2]
end
section
open Go.RowKit
set_option maxRecDepth 100000
set_option maxHeartbeats 1600000 in
theorem of_sha2 (p : Option Addr) (n c : Nat) (zs : List Int) (w : World) (hn : zs.length = n) (hnc : n ≤ c) (hnb : n ≤ 9223372036854775807) (hrd : Rd w p zs) (hb : ∀ z ∈ zs, 0 ≤ z ∧ z < 256) (hpr : Primes w) :
    Calls Tryz.prog 75 #[.int .i64 2, .slice p n c] w fun e w' => e = .returned (.tuple #[.agg (shaD zs).arr, .int .i64 0]) ∧ Frm [] w w' := by
  have hfa : Frm [] w (w.alloc (.cells #[.int .u64 0, .int .u64 0, .int .u64 0, .int .u64 0] 29)) := (Frm.refl _ _).alloc _
  have HA := hid (heap_alloc_new w (.cells #[.int .u64 0, .int .u64 0, .int .u64 0, .int .u64 0] 29))
  have HSH := hid (sha_any p n c zs (w.alloc (.cells #[.int .u64 0, .int .u64 0, .int .u64 0, .int .u64 0] 29)) hn hnc hnb (hrd.kept hfa (by simp)) hb (hpr.kept hfa))
  have HFA := hid hfa
  rw [sha_same] at HSH
  clear hrd hb hn hpr hfa hnc hnb
  go_enter Tryz.func75, Tryz.ntmps75
  go_wp2_with fail
  refine HSH.out.mono ?_
  rintro e w6 ⟨rfl, hf6⟩
  have hco := hf6.heap HA.out (by simp)
  obtain ⟨S, hS⟩ : ∃ S, shaD zs = S := ⟨_, rfl⟩
  rw [hS]
  have HS := hid hS
  unfold S4.arr
  obtain ⟨sb, hsb⟩ : ∃ sb, w.heap.size = sb := ⟨_, rfl⟩
  have HSB := hid hsb
  rw [hsb] at hco ⊢
  have e0 : w6.cell? ⟨sb, 0, none⟩ = some (.int .u64 0) := by rw [cell_of_row w6 _ _ _ _ _ hco]; rfl
  have z0 : w6.frozen? ⟨sb, 0, none⟩ = false := frozen_of_row w6 _ 0 _ _ hco
  have e1 : w6.cell? ⟨sb, 1, none⟩ = some (.int .u64 0) := by rw [cell_of_row w6 _ _ _ _ _ hco]; rfl
  have z1 : w6.frozen? ⟨sb, 1, none⟩ = false := frozen_of_row w6 _ 1 _ _ hco
  have e2 : w6.cell? ⟨sb, 2, none⟩ = some (.int .u64 0) := by rw [cell_of_row w6 _ _ _ _ _ hco]; rfl
  have z2 : w6.frozen? ⟨sb, 2, none⟩ = false := frozen_of_row w6 _ 2 _ _ hco
  have e3 : w6.cell? ⟨sb, 3, none⟩ = some (.int .u64 0) := by rw [cell_of_row w6 _ _ _ _ _ hco]; rfl
  have z3 : w6.frozen? ⟨sb, 3, none⟩ = false := frozen_of_row w6 _ 3 _ _ hco
  have HS4 := hid (set4 (y0 := .int .u64 S.a) (y1 := .int .u64 S.b) (y2 := .int .u64 S.c) (y3 := .int .u64 S.d) hco)
  have HF6 := hid (HFA.out.trans hf6 (by simp))
  clear hco hf6 hS hsb HSH HA
  go_wp2_with fail
  obtain ⟨h4, f4⟩ := HS4.out
  obtain ⟨wz, hwz⟩ : ∃ wz, (((w6.setCell ⟨sb, 0, none⟩ (.int .u64 S.a)).setCell ⟨sb, 1, none⟩ (.int .u64 S.b)).setCell ⟨sb, 2, none⟩ (.int .u64 S.c)).setCell ⟨sb, 3, none⟩ (.int .u64 S.d) = wz := ⟨_, rfl⟩
  rw [hwz] at h4 f4 ⊢
  have g0 : wz.cell? ⟨sb, 0, none⟩ = some (.int .u64 S.a) := by rw [cell_of_row wz _ _ _ _ _ h4]; rfl
  have g1 : wz.cell? ⟨sb, 1, none⟩ = some (.int .u64 S.b) := by rw [cell_of_row wz _ _ _ _ _ h4]; rfl
  have g2 : wz.cell? ⟨sb, 2, none⟩ = some (.int .u64 S.c) := by rw [cell_of_row wz _ _ _ _ _ h4]; rfl
  have g3 : wz.cell? ⟨sb, 3, none⟩ = some (.int .u64 S.d) := by rw [cell_of_row wz _ _ _ _ _ h4]; rfl
  refine bodyPost_ret (v := .tuple #[.agg #[.int .u64 S.a, .int .u64 S.b, .int .u64 S.c, .int .u64 S.d], .int .i64 0]) (by simp [results, Tryz.results75, go_sem, g0, g1, g2, g3]) rfl ⟨by rw [HS.out]; rfl, HF6.out.trans f4 (fun i hi hl => by simp at hi; have := HSB.out; omega)⟩
/-- What Of answers. -/
def ofS (kind : Int) (zs : List Int) : S4 × Int := if kind = 1 then (fletch zs, 0) else if kind = 2 then (shaD zs, 0) else (Z4, 20)
end
section
open Go.RowKit
set_option maxRecDepth 100000
theorem tx_bd (s : ByteArray) : ∀ z ∈ tx s, 0 ≤ z ∧ z < 256 := by
  intro z hz; simp [tx] at hz; obtain ⟨u, _, rfl⟩ := hz; have := u.toNat_lt; omega
end
section
open Go.RowKit Go.Lib
set_option maxRecDepth 100000
theorem FreshW.alloc {w0 w : World} {b : Nat} {room : Int} {s : List Int × Int} {A : List Nat} (h : FreshW w0 w b room s A) (o : Obj) : FreshW w0 (w.alloc o) b room s (w.heap.size :: A) ∧ Keeps A w (w.alloc o) := by
  obtain ⟨fp, h1, h2, h3, h4⟩ := h
  have hf : Frm [] w (w.alloc o) := (Frm.refl _ _).alloc _
  refine ⟨⟨fp, h1.kept hf (by simp), h2.trans hf (by simp), h3, fun k hk => ?_⟩, hf.keeps (fun k hk => ⟨by simp, (h4 k hk).2⟩)⟩
  rcases List.mem_cons.1 hk with rfl | hk
  · exact ⟨fun hm => absurd (h1.lt _ hm) (Nat.lt_irrefl _), by simp⟩
  · exact ⟨(h4 k hk).1, Nat.lt_of_lt_of_le (h4 k hk).2 hf.size⟩
theorem FreshW.less {w0 w : World} {b : Nat} {room : Int} {s : List Int × Int} {A B : List Nat} (h : FreshW w0 w b room s A) (hB : ∀ k ∈ B, k ∈ A) : FreshW w0 w b room s B := by
  obtain ⟨fp, h1, h2, h3, h4⟩ := h
  exact ⟨fp, h1, h2, h3, fun k hk => h4 k (hB k hk)⟩
theorem Keeps.trans {A : List Nat} {u v w : World} (h : Keeps A u v) (k : Keeps A v w) : Keeps A u w := fun x hx => (k x hx).trans (h x hx)
theorem Keeps.less {A B : List Nat} {u v : World} (h : Keeps A u v) (hB : ∀ k ∈ B, k ∈ A) : Keeps B u v := fun x hx => h x (hB x hx)
/-- A number that fits is laid down. -/
theorem num_fit (w0 w : World) (b : Nat) (room : Int) (zs : List Int) (A : List Nat) (hw : FreshW w0 w b room (zs, 0) A) (hr1 : room ≤ 2147483647) (n : Int) (k : Nat) (hn : 0 ≤ n) (hk1 : 1 ≤ k) (hk8 : k ≤ 8) (hfit : n < 2 ^ (8 * k)) (hz : (zs.length : Int) + k ≤ room) :
    Calls Tryz.prog 27 #[.pointer (some ⟨b, 0, none⟩), .int .u64 n, .int .i64 (k : Int)] w fun e w' => e = .returned (.tuple #[]) ∧ FreshW w0 w' b room (zs ++ le n k, 0) A ∧ Keeps A w w' := by
  have h2 : (2 : Int) ^ (8 * k) ≤ 18446744073709551616 := by
    have hk : k = 1 ∨ k = 2 ∨ k = 3 ∨ k = 4 ∨ k = 5 ∨ k = 6 ∨ k = 7 ∨ k = 8 := by omega
    rcases hk with rfl | rfl | rfl | rfl | rfl | rfl | rfl | rfl <;> decide
  have h := numF_any w0 w b room (zs, 0) A hw (by omega) hr1 (by simp only; omega) n (k : Int) hn (by omega) (by omega) (by omega)
  have e : stepW room (zs, 0) (numF n (k : Int)) = (zs ++ le n k, 0) := by
    have h0 : n / 2 ^ (8 * k) = 0 := Int.ediv_eq_zero_of_lt hn hfit
    unfold numF
    rw [if_neg (by omega), Int.toNat_natCast, if_neg (by rw [h0]; simp)]
    unfold stepW
    simp only [ne_eq, not_true, if_false]
    rw [if_neg (by rw [le_length]; omega)]
  rw [e] at h
  exact h
theorem bytes_fit (w0 w : World) (b : Nat) (room : Int) (zs : List Int) (A : List Nat) (hw : FreshW w0 w b room (zs, 0) A) (hr1 : room ≤ 2147483647) (p : Option Addr) (ns : List Int) (c : Nat) (hc : ns = [] → p = none → c = 0) (hrd : Rd w p ns) (hz : (zs.length : Int) + ns.length ≤ room) :
    Calls Tryz.prog 28 #[.pointer (some ⟨b, 0, none⟩), .slice p ns.length c] w fun e w' => e = .returned (.tuple #[]) ∧ FreshW w0 w' b room (zs ++ ns, 0) A ∧ Keeps A w w' := by
  have h := bytesF_any w0 w b room (zs, 0) A hw (by omega) hr1 (by simp only; omega) p ns c (by omega) hc hrd
  have e : stepW room (zs, 0) (ns, 0) = (zs ++ ns, 0) := by
    unfold stepW
    simp only [ne_eq, not_true, if_false]
    rw [if_neg (by omega)]
  rw [e] at h
  exact h
/-- A text that fits is laid down. -/
def txF (s : ByteArray) : List Int := le s.size 2 ++ tx s
theorem txF_len (s : ByteArray) : (txF s).length = 2 + s.size := by unfold txF; rw [List.length_append, le_length, tx_length]
theorem text_fit (w0 w : World) (b : Nat) (room : Int) (zs : List Int) (A : List Nat) (hw : FreshW w0 w b room (zs, 0) A) (hr1 : room ≤ 2147483647) (t : ByteArray) (ht : t.size ≤ 65535) (hz : (zs.length : Int) + 2 + t.size ≤ room) :
    Calls Tryz.prog 92 #[.pointer (some ⟨b, 0, none⟩), .string t] w fun e w' => e = .returned (.tuple #[]) ∧ FreshW w0 w' b room (zs ++ txF t, 0) A ∧ Keeps A w w' := by
  have h := textF_any w0 w b room (zs, 0) A hw (by omega) hr1 (by simp only; omega) t (by unfold maxLen; omega)
  have et : textF t = (txF t, 0) := by unfold textF; rw [if_neg (by omega)]; rfl
  have e : stepW room (zs, 0) (textF t) = (zs ++ txF t, 0) := by
    rw [et]
    unfold stepW
    simp only [ne_eq, not_true, if_false]
    rw [if_neg (by rw [txF_len]; omega)]
  rw [e] at h
  exact h
theorem FreshW.with_ {w0 w : World} {b : Nat} {room : Int} {s : List Int × Int} {A : List Nat} (h : FreshW w0 w b room s []) (hA : ∀ k ∈ A, k < w0.heap.size) : FreshW w0 w b room s A := by
  obtain ⟨fp, h1, h2, h3, _⟩ := h
  exact ⟨fp, h1, h2, h3, fun k hk => ⟨fun hm => by have := h3 k hm; have := hA k hk; omega, Nat.lt_of_lt_of_le (hA k hk) h2.size⟩⟩
end
section
open Go.RowKit Go.Lib
set_option maxRecDepth 100000
/-- Bytes of one's own at p behind a step that may have written into them, or moved them. -/
structure BufF (w : World) (p : Option Addr) (w' : World) (p' : Option Addr) (n' c' : Nat) (zs : List Int) : Prop where
  own : Own w' 5 (.slice p' n' c') zs
  len : zs.length = n'
  fr : Frm (blk p) w w'
  bk : ∀ i ∈ blk p', i ∈ blk p ∨ w.heap.size ≤ i
theorem BufF.trans {w w1 w2 : World} {p p1 p2 : Option Addr} {n1 c1 n2 c2 : Nat} {zs ys : List Int} (h : BufF w p w1 p1 n1 c1 zs) (k : BufF w1 p1 w2 p2 n2 c2 ys) : BufF w p w2 p2 n2 c2 ys :=
  ⟨k.own, k.len, h.fr.trans k.fr (fun i hi hl => (h.bk i hi).elim id (fun h => absurd hl (Nat.not_lt.2 h))), fun i hi => (k.bk i hi).elim (h.bk i) (fun h2 => Or.inr (Nat.le_trans h.fr.size h2))⟩
theorem BufF.pre {w w0 w1 : World} {p p1 : Option Addr} {n1 c1 : Nat} {zs : List Int} (hf : Frm [] w w0) (h : BufF w0 p w1 p1 n1 c1 zs) : BufF w p w1 p1 n1 c1 zs :=
  ⟨h.own, h.len, (hf.mono (by simp)).trans h.fr (fun i hi _ => hi), fun i hi => (h.bk i hi).imp id (fun h2 => Nat.le_trans hf.size h2)⟩
theorem BufF.post {w w1 w2 : World} {p p1 : Option Addr} {n1 c1 : Nat} {zs : List Int} (h : BufF w p w1 p1 n1 c1 zs) (hf : Frm [] w1 w2) : BufF w p w2 p1 n1 c1 zs :=
  ⟨h.own.kept hf (by simp), h.len, h.fr.trans hf (by simp), h.bk⟩
theorem BufF.nil {w w1 : World} {p1 : Option Addr} {n1 c1 : Nat} {zs : List Int} (h : BufF w none w1 p1 n1 c1 zs) : Frm [] w w1 ∧ ∀ i ∈ blk p1, w.heap.size ≤ i :=
  ⟨h.fr, fun i hi => (h.bk i hi).elim (fun h => by simp [blk] at h) id⟩
theorem BufF.self {w : World} {p : Option Addr} {n c : Nat} {zs : List Int} (h : Own w 5 (.slice p n c) zs) (hn : zs.length = n) : BufF w p w p n c zs := ⟨h, hn, Frm.refl _ _, fun _ hi => Or.inl hi⟩
set_option maxHeartbeats 1600000 in
theorem refNumF_any (p0 : Option Addr) (m c0 : Nat) (zs : List Int) (n : Int) (k : Nat) (w : World) (ho : Own w 5 (.slice p0 m c0) zs) (hm : zs.length = m) (hm2 : m ≤ 1099511627776) (hn : 0 ≤ n) (hn2 : n < 9223372036854775808) (hk : k ≤ 8) :
    Calls Tryz.prog 37 #[.slice p0 m c0, .int .i64 n, .int .i64 (k : Int)] w fun e w' => ∃ p c, e = .returned (.slice p (m + k) c) ∧ BufF w p0 w' p (m + k) c (zs ++ le n k) := by
  have HO0 := hid ho
  have HM := hid hm
  clear ho hm
  go_enter Tryz.func37, Tryz.ntmps37
  go_wp2_with fail
  go_loopw [0, 1, 7] (fun b v i wr => ∃ (j : Nat) (p : Option Addr) (c : Nat), j ≤ k ∧ i = .int .i64 j ∧ v = .int .i64 (n / 2 ^ (8 * j)) ∧ b = .slice p (m + j) c ∧ Hid (BufF w p0 wr p (m + j) c (zs ++ le n j))) (fun _ _ i _ => k - (intOf i).toNat)
  case atStart => exact ⟨0, p0, c0, Nat.zero_le _, rfl, by simp, rfl, hid (by rw [show zs ++ le n 0 = zs by simp [le]]; exact BufF.self HO0.out HM.out)⟩
  case round =>
    obtain ⟨j, p, c, hj, rfl, rfl, rfl, hb⟩ := hrel
    have hq : 0 ≤ n / 2 ^ (8 * j) ∧ n / 2 ^ (8 * j) < 9223372036854775808 := by
      refine ⟨Int.ediv_nonneg hn (Int.pow_nonneg (by decide)), ?_⟩
      exact Int.lt_of_le_of_lt (Int.ediv_le_self _ hn) hn2
    have hsucc : n / 2 ^ (8 * (j + 1)) = n / 2 ^ (8 * j) / 256 := by
      rw [Int.ediv_ediv_of_nonneg (Int.pow_nonneg (by decide)), Nat.mul_add, Int.pow_add]; rfl
    have HS := hid hsucc
    have hle := le_succ n j
    have HLE := hid hle
    have HL := hid (le_length n j)
    clear hsucc hle
    obtain ⟨q, hqq⟩ : ∃ q, n / 2 ^ (8 * j) = q := ⟨_, rfl⟩
    rw [hqq] at hq HS HLE ⊢
    clear hqq
    obtain ⟨hq0, hq1⟩ := hq
    by_cases hlt : j < k
    · have hrd : Rd (wr.alloc (.cells #[.int .u8 (q % 256)] 5)) (some ⟨wr.heap.size, 0, none⟩) [q % 256] :=
        (own_of_block (E := 5) (zs := [q % 256]) (heap_alloc_new wr _) (by simp [maxLen])).rd
      have HRD := hid hrd
      have HFA := hid ((Frm.refl [] wr).alloc (.cells #[.int .u8 (q % 256)] 5))
      have HO := hid (hb.out.own.kept HFA.out (by simp))
      have htm : Int.tmod q 256 = q % 256 := Int.tmod_eq_emod_of_nonneg hq0
      have htd : Int.tdiv q 256 = q / 256 := Int.tdiv_eq_ediv_of_nonneg hq0
      clear hrd
      go_wp2_with (at_builtin; refine wpList_appB rfl _ _ 24 rfl 5 Tryz.underlying24 infoE p _ c (zs ++ le n j) rfl hb.out.len.symm (by rw [hb.out.len]; exact HO.out) (some ⟨wr.heap.size, 0, none⟩) 1 1 [q % 256] rfl rfl (by simp) HRD.out (by rw [hb.out.len]; simp; omega) ?_)
      intro xs p2 c2 w2 hxs ho2 hf2 hfr2
      have hxe : xs = zs ++ le n (j + 1) := by rw [hxs.out, HLE.out]
      have hxl : xs.length = m + (j + 1) := by rw [hxe, List.length_append, HM.out, le_length]
      rw [hxl]
      have HXL := hid hxl
      have HXE := hid hxe
      clear hxl hxe
      go_wp2_with fail
      go_roundw
      case rel =>
        refine ⟨j + 1, p2, c2, by omega, by go_num, by rw [HS.out], rfl, hid ?_⟩
        have h := ho2.out
        rw [HXL.out, HXE.out] at h
        exact hb.out.trans (BufF.pre HFA.out ⟨h, by rw [← HXE.out, HXL.out], hf2.out, fun i hi => (hfr2.out i hi).imp id (fun h => by simpa using h)⟩)
      case measure => simp [intOf]; omega
    · obtain rfl : j = k := by omega
      go_wp2_with fail
      go_returns
      exact ⟨p, c, rfl, hb.out⟩
/-- append of a text, as a law of the walk. -/
theorem wpList_appSF {P : Program} {w : World} {ops : Array Oper} {rest : List Oper} {o : Oper} {a : Act} {Q : Exit → Act → World → Prop} (hgd : o.guard = none) (sl x : Operand) (t u : TypeId)
    (ho : o.op = .call { callee := .builtin .append, args := #[sl, x], argTypes := #[t, u] })
    (E : TypeId) (ht : P.underlying t = some (.slice E)) (hu : P.underlying u = some .string) (hI : (P.info? E).map (fun i => (i.zero, i.size, i.bytes)) = some (some (.int .u8 0), 1, 1))
    (p0 : Option Addr) (n0 c0 : Nat) (zs : List Int) (hs : a.eval sl = .slice p0 n0 c0) (hn0 : n0 = zs.length) (hown : Own w E (.slice p0 zs.length c0) zs)
    (s : ByteArray) (hx : a.eval x = .string s) (hsz : zs.length + s.size ≤ 140737488355328)
    (h : ∀ xs p2 c2 w', Hid (xs = zs ++ tx s) → Hid (Own w' E (.slice p2 xs.length c2) xs) → Hid (Frm (blk p0) w w') → Hid (∀ k ∈ blk p2, k ∈ blk p0 ∨ w.heap.size ≤ k) → wpList P ops Q rest (a.put o.dst (.slice p2 xs.length c2)) w') :
    wpList P ops Q (o :: rest) a w := by
  refine wpList_plain hgd fun K hK => ?_
  subst hn0
  obtain ⟨v', w', hrun, h1, h2, h3⟩ := run_appS (P := P) (w := w) t u o.type E ht hu hI _ zs hown s hsz
  obtain ⟨xs, hxs⟩ : ∃ xs, xs = zs ++ tx s := ⟨_, rfl⟩
  rw [← hxs] at h1
  obtain ⟨p2, c2, rfl, _, _, _, hb⟩ := h1.shape
  rw [hb, own_blk] at h3
  rw [own_blk] at h2
  unfold Oper.wp
  simp [execOp, ho, resolve, invoke, builtin, hs, hx, hrun, Result.andThen]
  exact hK _ _ (h xs p2 c2 w' hxs h1 h2 h3)
set_option maxHeartbeats 1600000 in
theorem refTextF_any (p0 : Option Addr) (m c0 : Nat) (zs : List Int) (t : ByteArray) (w : World) (ho : Own w 5 (.slice p0 m c0) zs) (hm : zs.length = m) (hm2 : m ≤ 1000000) (ht : t.size ≤ 1000000) :
    Calls Tryz.prog 80 #[.slice p0 m c0, .string t] w fun e w' => ∃ p n c, e = .returned (.slice p n c) ∧ BufF w p0 w' p n c (zs ++ txF t) := by
  have HN := hid (refNumF_any p0 m c0 zs (t.size : Int) 2 w ho hm (by omega) (by omega) (by omega) (by omega))
  have HM := hid hm
  clear ho hm
  go_enter Tryz.func80, Tryz.ntmps80
  go_wp2_with fail
  refine HN.out.mono ?_
  rintro e w1 ⟨p, c, rfl, hb⟩
  have HB := hid hb
  obtain ⟨n, hn⟩ : ∃ z, m + 2 = z := ⟨_, rfl⟩
  rw [hn] at HB ⊢
  clear hb HN
  go_wp2_with (at_builtin; refine wpList_appSF rfl _ _ 24 9 rfl 5 Tryz.underlying24 Tryz.underlying9 infoE p n c (zs ++ le t.size 2) rfl HB.out.len.symm (by rw [HB.out.len]; exact HB.out.own) t rfl (by rw [HB.out.len]; omega) ?_)
  intro xs p2 c2 w2 hxs ho2 hf2 hfr2
  go_wp2_with fail
  first | go_returns | skip
  refine ⟨p2, xs.length, c2, rfl, ?_⟩
  have he : xs = zs ++ txF t := by rw [hxs.out]; unfold txF; rfl
  have h := HB.out.trans (⟨ho2.out, rfl, hf2.out, hfr2.out⟩ : BufF w1 p w2 p2 xs.length c2 xs)
  rw [← he]
  exact h
end
section
open Go.RowKit Go.Lib
set_option maxRecDepth 100000
theorem tx_getR (B : ByteArray) (t : Nat) (h : t < B.size) : zA (tx B) t = (B[t].toNat : Int) := by
  have h2 : t < B.data.toList.length := by simpa using h
  unfold zA tx
  rw [List.getD_eq_getElem?_getD, List.getElem?_map, List.getElem?_eq_getElem h2]
  rfl
/-- May a byte stand at a place of a part? -/
def okC (i : Nat) (c : Int) : Prop := (97 ≤ c ∧ c ≤ 122) ∨ (48 ≤ c ∧ c ≤ 57) ∨ (i ≠ 0 ∧ (c = 46 ∨ c = 95 ∨ c = 45))
def PartL (l : List Int) : Prop := (1 ≤ l.length ∧ l.length ≤ 24) ∧ ∀ i, i < l.length → okC i (zA l i)
instance (i : Nat) (c : Int) : Decidable (okC i c) := by unfold okC; infer_instance
instance (l : List Int) : Decidable (PartL l) := by unfold PartL; infer_instance
theorem bool_decR {P : Prop} [Decidable P] {x : Bool} (h : x = true ↔ P) : x = decide P := by
  by_cases hp : P
  · rw [decide_eq_true hp]; exact h.2 hp
  · rw [decide_eq_false hp]; cases x
    · rfl
    · exact absurd (h.1 rfl) hp
set_option maxHeartbeats 6400000 in
theorem partW_any (B : ByteArray) (w : World) :
    Calls Tryz.prog 91 #[.string B] w fun e w' => e = .returned (.bool (decide (PartL (tx B)))) ∧ w' = w := by
  obtain ⟨PO, hPO⟩ : ∃ PO : Ending → World → Prop, (fun e w' => e = .returned (.bool (decide (PartL (tx B)))) ∧ w' = w) = PO := ⟨_, rfl⟩
  rw [hPO]
  have HP : Hid (∀ x, (x = true ↔ PartL (tx B)) → PO (.returned (.bool x)) w) := hid (fun x h => by rw [← hPO]; exact ⟨by rw [bool_decR h], rfl⟩)
  have HL : Hid ((tx B).length = B.size) := hid (tx_length B)
  have HG : Hid (∀ t (h : t < B.size), zA (tx B) t = (B[t].toNat : Int)) := hid (fun t h => tx_getR B t h)
  clear hPO
  go_enter Tryz.func91, Tryz.ntmps91
  by_cases h1 : B.size < 1
  case pos =>
    have i1 : (B.size : Int) < 1 := by omega
    go_wp2_with fail
    first | go_returns | skip
    exact HP.out _ (by simp; intro h; have := h.1.1; have := HL.out; omega)
  by_cases h2 : 24 < B.size
  case pos =>
    have i1 : ¬ (B.size : Int) < 1 := by omega
    have i2 : (24 : Int) < (B.size : Int) := by omega
    go_wp2_with fail
    first | go_returns | skip
    exact HP.out _ (by simp; intro h; have := h.1.2; have := HL.out; omega)
  have i1 : ¬ (B.size : Int) < 1 := by omega
  have i2 : ¬ (24 : Int) < (B.size : Int) := by omega
  go_wp2_with fail
  go_loop [2, 16] (fun r i => ∃ t : Nat, t ≤ B.size ∧ r = .bool false ∧ i = .int .i64 (t : Int) ∧ Hid (∀ j, j < t → okC j (zA (tx B) j))) (fun _ i => B.size - (intOf i).toNat)
  case atStart => exact ⟨0, Nat.zero_le _, rfl, rfl, hid (fun j hj => by omega)⟩
  case round =>
    obtain ⟨t, ht, rfl, rfl, hok⟩ := hrel
    have HOK := hid hok.out
    clear hok
    by_cases hlt : t < B.size
    case neg =>
      obtain rfl : t = B.size := by omega
      go_wp2_with fail
      first | go_returns | skip
      exact HP.out _ (by simp; exact ⟨by have := HL.out; omega, fun i hi => HOK.out i (by rw [← HL.out]; exact hi)⟩)
    have t1 : (t : Int) < (B.size : Int) := by omega
    have hb := B[t].toNat_lt
    have HNX : Hid (okC t (B[t].toNat : Int) → ∀ j, j < t + 1 → okC j (zA (tx B) j)) := hid (fun h j hj => by
      by_cases hj2 : j < t
      · exact HOK.out j hj2
      · obtain rfl : j = t := by omega
        rw [HG.out j hlt]; exact h)
    have HBD : Hid (PartL (tx B) → okC t (B[t].toNat : Int)) := hid (fun h => by rw [← HG.out t hlt]; exact h.2 t (by rw [HL.out]; exact hlt))
    clear HG HOK
    by_cases a1 : 97 ≤ B[t].toNat ∧ B[t].toNat ≤ 122
    case pos =>
      have i0 : (97 : Int) ≤ (B[t].toNat : Int) := by omega
      have i1 : (B[t].toNat : Int) ≤ 122 := by omega
      have HK : Hid (okC t (B[t].toNat : Int)) := hid (by unfold okC; omega)
      first | clear a0 | skip
      first | clear a5 | skip
      first | clear a6 | skip
      go_wp2_with fail
      go_round
      case rel => exact ⟨t + 1, by omega, rfl, by go_num, hid (HNX.out HK.out)⟩
      case measure => first | (simp [intOf]; done) | (simp [intOf]; omega)
    by_cases a2 : 48 ≤ B[t].toNat ∧ B[t].toNat ≤ 57
    case pos =>
      have i0 : ¬ (97 : Int) ≤ (B[t].toNat : Int) := by omega
      have i1 : (48 : Int) ≤ (B[t].toNat : Int) := by omega
      have i2 : (B[t].toNat : Int) ≤ 57 := by omega
      have HK : Hid (okC t (B[t].toNat : Int)) := hid (by unfold okC; omega)
      first | clear a0 | skip
      first | clear a5 | skip
      first | clear a6 | skip
      go_wp2_with fail
      go_round
      case rel => exact ⟨t + 1, by omega, rfl, by go_num, hid (HNX.out HK.out)⟩
      case measure => first | (simp [intOf]; done) | (simp [intOf]; omega)
    by_cases a3 : 122 < B[t].toNat
    case pos =>
      by_cases a0 : t = 0
      case pos =>
        have i0 : (97 : Int) ≤ (B[t].toNat : Int) := by omega
        have i1 : ¬ (B[t].toNat : Int) ≤ 122 := by omega
        have i2 : (48 : Int) ≤ (B[t].toNat : Int) := by omega
        have i3 : ¬ (B[t].toNat : Int) ≤ 57 := by omega
        have i4 : ((t : Int) == 0) = true := by simp; omega
        have HK : Hid (¬ okC t (B[t].toNat : Int)) := hid (by unfold okC; omega)
        first | clear a0 | skip
        first | clear a5 | skip
        first | clear a6 | skip
        go_wp2_with fail
        first | go_returns | skip
        exact HP.out _ (by simp; exact fun h => HK.out (HBD.out h))
      have i0 : (97 : Int) ≤ (B[t].toNat : Int) := by omega
      have i1 : ¬ (B[t].toNat : Int) ≤ 122 := by omega
      have i2 : (48 : Int) ≤ (B[t].toNat : Int) := by omega
      have i3 : ¬ (B[t].toNat : Int) ≤ 57 := by omega
      have i4 : ((t : Int) == 0) = false := by simp; omega
      have i5 : ((B[t].toNat : Int) != 46) = true := by simp; omega
      have i6 : ((B[t].toNat : Int) != 95) = true := by simp; omega
      have i7 : ((B[t].toNat : Int) != 45) = true := by simp; omega
      have HK : Hid (¬ okC t (B[t].toNat : Int)) := hid (by unfold okC; omega)
      first | clear a0 | skip
      first | clear a5 | skip
      first | clear a6 | skip
      go_wp2_with fail
      first | go_returns | skip
      exact HP.out _ (by simp; exact fun h => HK.out (HBD.out h))
    by_cases a4 : B[t].toNat < 48
    case pos =>
      by_cases a0 : t = 0
      case pos =>
        have i0 : ¬ (97 : Int) ≤ (B[t].toNat : Int) := by omega
        have i1 : ¬ (48 : Int) ≤ (B[t].toNat : Int) := by omega
        have i2 : ((t : Int) == 0) = true := by simp; omega
        have HK : Hid (¬ okC t (B[t].toNat : Int)) := hid (by unfold okC; omega)
        first | clear a0 | skip
        first | clear a5 | skip
        first | clear a6 | skip
        go_wp2_with fail
        first | go_returns | skip
        exact HP.out _ (by simp; exact fun h => HK.out (HBD.out h))
      by_cases a5 : B[t].toNat = 46
      case pos =>
        have i0 : ¬ (97 : Int) ≤ (B[t].toNat : Int) := by omega
        have i1 : ¬ (48 : Int) ≤ (B[t].toNat : Int) := by omega
        have i2 : ((t : Int) == 0) = false := by simp; omega
        have i3 : ((B[t].toNat : Int) != 46) = false := by simp; omega
        have HK : Hid (okC t (B[t].toNat : Int)) := hid (by unfold okC; omega)
        first | clear a0 | skip
        first | clear a5 | skip
        first | clear a6 | skip
        go_wp2_with fail
        go_round
        case rel => exact ⟨t + 1, by omega, rfl, by go_num, hid (HNX.out HK.out)⟩
        case measure => first | (simp [intOf]; done) | (simp [intOf]; omega)
      by_cases a6 : B[t].toNat = 45
      case pos =>
        have i0 : ¬ (97 : Int) ≤ (B[t].toNat : Int) := by omega
        have i1 : ¬ (48 : Int) ≤ (B[t].toNat : Int) := by omega
        have i2 : ((t : Int) == 0) = false := by simp; omega
        have i3 : ((B[t].toNat : Int) != 46) = true := by simp; omega
        have i4 : ((B[t].toNat : Int) != 95) = true := by simp; omega
        have i5 : ((B[t].toNat : Int) != 45) = false := by simp; omega
        have HK : Hid (okC t (B[t].toNat : Int)) := hid (by unfold okC; omega)
        first | clear a0 | skip
        first | clear a5 | skip
        first | clear a6 | skip
        go_wp2_with fail
        go_round
        case rel => exact ⟨t + 1, by omega, rfl, by go_num, hid (HNX.out HK.out)⟩
        case measure => first | (simp [intOf]; done) | (simp [intOf]; omega)
      have i0 : ¬ (97 : Int) ≤ (B[t].toNat : Int) := by omega
      have i1 : ¬ (48 : Int) ≤ (B[t].toNat : Int) := by omega
      have i2 : ((t : Int) == 0) = false := by simp; omega
      have i3 : ((B[t].toNat : Int) != 46) = true := by simp; omega
      have i4 : ((B[t].toNat : Int) != 95) = true := by simp; omega
      have i5 : ((B[t].toNat : Int) != 45) = true := by simp; omega
      have HK : Hid (¬ okC t (B[t].toNat : Int)) := hid (by unfold okC; omega)
      first | clear a0 | skip
      first | clear a5 | skip
      first | clear a6 | skip
      go_wp2_with fail
      first | go_returns | skip
      exact HP.out _ (by simp; exact fun h => HK.out (HBD.out h))
    by_cases a0 : t = 0
    case pos =>
      have i0 : ¬ (97 : Int) ≤ (B[t].toNat : Int) := by omega
      have i1 : (48 : Int) ≤ (B[t].toNat : Int) := by omega
      have i2 : ¬ (B[t].toNat : Int) ≤ 57 := by omega
      have i3 : ((t : Int) == 0) = true := by simp; omega
      have HK : Hid (¬ okC t (B[t].toNat : Int)) := hid (by unfold okC; omega)
      first | clear a0 | skip
      first | clear a5 | skip
      first | clear a6 | skip
      go_wp2_with fail
      first | go_returns | skip
      exact HP.out _ (by simp; exact fun h => HK.out (HBD.out h))
    by_cases a6 : B[t].toNat = 95
    case pos =>
      have i0 : ¬ (97 : Int) ≤ (B[t].toNat : Int) := by omega
      have i1 : (48 : Int) ≤ (B[t].toNat : Int) := by omega
      have i2 : ¬ (B[t].toNat : Int) ≤ 57 := by omega
      have i3 : ((t : Int) == 0) = false := by simp; omega
      have i4 : ((B[t].toNat : Int) != 46) = true := by simp; omega
      have i5 : ((B[t].toNat : Int) != 95) = false := by simp; omega
      have HK : Hid (okC t (B[t].toNat : Int)) := hid (by unfold okC; omega)
      first | clear a0 | skip
      first | clear a5 | skip
      first | clear a6 | skip
      go_wp2_with fail
      go_round
      case rel => exact ⟨t + 1, by omega, rfl, by go_num, hid (HNX.out HK.out)⟩
      case measure => first | (simp [intOf]; done) | (simp [intOf]; omega)
    have i0 : ¬ (97 : Int) ≤ (B[t].toNat : Int) := by omega
    have i1 : (48 : Int) ≤ (B[t].toNat : Int) := by omega
    have i2 : ¬ (B[t].toNat : Int) ≤ 57 := by omega
    have i3 : ((t : Int) == 0) = false := by simp; omega
    have i4 : ((B[t].toNat : Int) != 46) = true := by simp; omega
    have i5 : ((B[t].toNat : Int) != 95) = true := by simp; omega
    have i6 : ((B[t].toNat : Int) != 45) = true := by simp; omega
    have HK : Hid (¬ okC t (B[t].toNat : Int)) := hid (by unfold okC; omega)
    first | clear a0 | skip
    first | clear a5 | skip
    first | clear a6 | skip
    go_wp2_with fail
    first | go_returns | skip
    exact HP.out _ (by simp; exact fun h => HK.out (HBD.out h))
end
section
open Go.RowKit Go.Lib
set_option maxRecDepth 100000
def PrnL (l : List Int) : Prop := ∀ i, i < l.length → 32 ≤ zA l i ∧ zA l i ≤ 126
def ValL (l : List Int) : Prop := (1 ≤ l.length ∧ l.length ≤ 64) ∧ PrnL l
instance (l : List Int) : Decidable (PrnL l) := by unfold PrnL; infer_instance
instance (l : List Int) : Decidable (ValL l) := by unfold ValL; infer_instance
set_option maxHeartbeats 6400000 in
theorem printed_any (B : ByteArray) (hB : B.size ≤ 9223372036854775807) (w : World) :
    Calls Tryz.prog 117 #[.string B] w fun e w' => e = .returned (.bool (decide (PrnL (tx B)))) ∧ w' = w := by
  obtain ⟨PO, hPO⟩ : ∃ PO : Ending → World → Prop, (fun e w' => e = .returned (.bool (decide (PrnL (tx B)))) ∧ w' = w) = PO := ⟨_, rfl⟩
  rw [hPO]
  have HP : Hid (∀ x, (x = true ↔ PrnL (tx B)) → PO (.returned (.bool x)) w) := hid (fun x h => by rw [← hPO]; exact ⟨by rw [bool_decR h], rfl⟩)
  have HL : Hid ((tx B).length = B.size) := hid (tx_length B)
  have HG : Hid (∀ t (h : t < B.size), zA (tx B) t = (B[t].toNat : Int)) := hid (fun t h => tx_getR B t h)
  clear hPO
  go_enter Tryz.func117, Tryz.ntmps117
  go_wp2_with fail
  go_loop [2, 6] (fun r i => ∃ t : Nat, t ≤ B.size ∧ r = .bool false ∧ i = .int .i64 (t : Int) ∧ Hid (∀ j, j < t → 32 ≤ zA (tx B) j ∧ zA (tx B) j ≤ 126)) (fun _ i => B.size - (intOf i).toNat)
  case atStart => exact ⟨0, Nat.zero_le _, rfl, rfl, hid (fun j hj => by omega)⟩
  case round =>
    obtain ⟨t, ht, rfl, rfl, hok⟩ := hrel
    have HOK := hid hok.out
    clear hok
    by_cases hlt : t < B.size
    case neg =>
      obtain rfl : t = B.size := by omega
      go_wp2_with fail
      first | go_returns | skip
      exact HP.out _ (by simp; exact fun i hi => HOK.out i (by rw [← HL.out]; exact hi))
    have t1 : (t : Int) < (B.size : Int) := by omega
    have hb := B[t].toNat_lt
    have HNX : Hid (32 ≤ (B[t].toNat : Int) ∧ (B[t].toNat : Int) ≤ 126 → ∀ j, j < t + 1 → 32 ≤ zA (tx B) j ∧ zA (tx B) j ≤ 126) := hid (fun h j hj => by
      by_cases hj2 : j < t
      · exact HOK.out j hj2
      · obtain rfl : j = t := by omega
        rw [HG.out j hlt]; exact h)
    have HBD : Hid (PrnL (tx B) → 32 ≤ (B[t].toNat : Int) ∧ (B[t].toNat : Int) ≤ 126) := hid (fun h => by rw [← HG.out t hlt]; exact h t (by rw [HL.out]; exact hlt))
    clear HG HOK
    by_cases a1 : B[t].toNat < 32
    case pos =>
      have i1 : (B[t].toNat : Int) < 32 := by omega
      have HK : Hid (¬ (32 ≤ (B[t].toNat : Int) ∧ (B[t].toNat : Int) ≤ 126)) := hid (by omega)
      go_wp2_with fail
      first | go_returns | skip
      exact HP.out _ (by simp; exact fun h => HK.out (HBD.out h))
    by_cases a2 : 126 < B[t].toNat
    case pos =>
      have i1 : ¬ (B[t].toNat : Int) < 32 := by omega
      have i2 : (126 : Int) < (B[t].toNat : Int) := by omega
      have HK : Hid (¬ (32 ≤ (B[t].toNat : Int) ∧ (B[t].toNat : Int) ≤ 126)) := hid (by omega)
      go_wp2_with fail
      first | go_returns | skip
      exact HP.out _ (by simp; exact fun h => HK.out (HBD.out h))
    have i1 : ¬ (B[t].toNat : Int) < 32 := by omega
    have i2 : ¬ (126 : Int) < (B[t].toNat : Int) := by omega
    have HK : Hid (32 ≤ (B[t].toNat : Int) ∧ (B[t].toNat : Int) ≤ 126) := hid (by omega)
    go_wp2_with fail
    go_round
    case rel => exact ⟨t + 1, by omega, rfl, by go_num, hid (HNX.out HK.out)⟩
    case measure => first | (simp [intOf]; done) | (simp [intOf]; omega)
set_option maxHeartbeats 3200000 in
theorem value_anyR (B : ByteArray) (w : World) :
    Calls Tryz.prog 96 #[.string B] w fun e w' => e = .returned (.bool (decide (ValL (tx B)))) ∧ w' = w := by
  obtain ⟨PO, hPO⟩ : ∃ PO : Ending → World → Prop, (fun e w' => e = .returned (.bool (decide (ValL (tx B)))) ∧ w' = w) = PO := ⟨_, rfl⟩
  rw [hPO]
  have HP : Hid (∀ x, (x = true ↔ ValL (tx B)) → PO (.returned (.bool x)) w) := hid (fun x h => by rw [← hPO]; exact ⟨by rw [bool_decR h], rfl⟩)
  have HL : Hid ((tx B).length = B.size) := hid (tx_length B)
  clear hPO
  go_enter Tryz.func96, Tryz.ntmps96
  by_cases h1 : 1 ≤ B.size
  case neg =>
    have i1 : ¬ (1 : Int) ≤ (B.size : Int) := by omega
    go_wp2_with fail
    first | go_returns | skip
    exact HP.out _ (by simp; intro h; have := h.1.1; have := HL.out; omega)
  have i1 : (1 : Int) ≤ (B.size : Int) := by omega
  by_cases h2 : B.size ≤ 64
  case neg =>
    have i2 : ¬ (B.size : Int) ≤ 64 := by omega
    go_wp2_with fail
    first | go_returns | skip
    exact HP.out _ (by simp; intro h; have := h.1.2; have := HL.out; omega)
  have i2 : (B.size : Int) ≤ 64 := by omega
  have HC := hid (printed_any B (by omega) w)
  go_wp2_with fail
  refine HC.out.mono ?_
  rintro e _ ⟨rfl, rfl⟩
  go_wp2_with fail
  first | go_returns | skip
  exact HP.out _ (by simp only [decide_eq_true_eq]; exact ⟨fun h => ⟨by rw [HL.out]; omega, h⟩, fun h => h.2⟩)
/-- A number within bounds. -/
theorem within_anyR (n lo hi : Int) (w : World) : Calls Tryz.prog 90 #[.int .i64 n, .int .i64 lo, .int .i64 hi] w fun e w' => e = .returned (.bool (decide (lo ≤ n ∧ n ≤ hi))) ∧ w' = w := by
  go_enter Tryz.func90, Tryz.ntmps90
  by_cases h1 : lo ≤ n
  · by_cases h2 : n ≤ hi
    · rw [decide_eq_true ⟨h1, h2⟩]
      go_wp2_with fail
      first | go_returns | skip
      exact ⟨rfl, rfl⟩
    · rw [decide_eq_false (fun h => h2 h.2)]
      go_wp2_with fail
      first | go_returns | skip
      exact ⟨rfl, rfl⟩
  · rw [decide_eq_false (fun h => h1 h.1)]
    go_wp2_with fail
    first | go_returns | skip
    exact ⟨rfl, rfl⟩
end
end Go.Proofs.YtajfjkfnmmfhmaaGreatDoor
