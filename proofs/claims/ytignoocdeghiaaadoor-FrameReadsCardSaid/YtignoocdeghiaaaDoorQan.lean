/- One SHA-256: the program's tail and the document's padded bytes. Contracts of package sum: Of and Check of any kind. Frames: seal, lay of a request, Request. Two operations may come up next, in either order. Speaks of no program. -/
import Derived.Test.YtignoocdeghiaaaDoorQam
import Derived.Test.YtignoocdeghiaaaDoorQak
import Derived.Test.YtignoocdeghiaaaDoorQac
namespace Go.Proofs.YtignoocdeghiaaaDoor
section
open Go.RowKit
set_option maxRecDepth 100000

theorem at_take (zs : List Int) (m i : Nat) (h : i < m) : zA (zs.take m) i = zA zs i := by
  simp [zA, List.getD_eq_getElem?_getD, h]
theorem at_drop (zs : List Int) (m i : Nat) : zA (zs.drop m) i = zA zs (m + i) := by
  simp [zA, List.getD_eq_getElem?_getD, List.getElem?_drop]
theorem at_set (T : List Int) (j i : Nat) (z : Int) (h : j < T.length) : zA (T.set j z) i = if i = j then z else zA T i := by
  unfold zA
  rw [List.getD_eq_getElem?_getD, List.getD_eq_getElem?_getD, List.getElem?_set]
  by_cases e : j = i
  · subst e; simp [h]
  · rw [if_neg e, if_neg (fun h => e h.symm)]
theorem at_app (a b : List Int) (i : Nat) : zA (a ++ b) i = if i < a.length then zA a i else zA b (i - a.length) := by
  unfold zA
  rw [List.getD_eq_getElem?_getD, List.getElem?_append]
  split <;> rw [List.getD_eq_getElem?_getD]
theorem at_rep (n i : Nat) : zA (List.replicate n 0) i = 0 := by
  simp only [zA, List.getD_eq_getElem?_getD, List.getElem?_replicate]
  split <;> rfl
theorem at_one (z : Int) : zA [z] 0 = z := rfl
theorem ext_at {a b : List Int} (hl : a.length = b.length) (h : ∀ i, i < a.length → zA a i = zA b i) : a = b := by
  refine List.ext_getElem hl fun i h1 h2 => ?_
  have := h i h1
  simpa [zA, List.getD_eq_getElem?_getD, h1, h2] using this
theorem wA_take (zs : List Int) (t : Nat) (h : t ≤ 16) : wA (zs.take 64) t = wA zs t := by
  induction t with
  | zero => rfl
  | succ t ih => simp only [wA]; rw [ih (by omega), at_take _ _ _ (by omega), at_take _ _ _ (by omega), at_take _ _ _ (by omega), at_take _ _ _ (by omega)]
theorem blockV_take (v : V8) (zs : List Int) : blockV v (zs.take 64) = blockV v zs := by
  unfold blockV
  rw [wA_take _ _ (Nat.le_refl _)]
theorem tlE_length (n E : Nat) (T : List Int) (i : Nat) : (tlE n E T i).length = T.length := by
  induction i with
  | zero => rfl
  | succ i ih => simp [tlE, ih]
theorem at_tlE (n E : Nat) (T : List Int) (i j : Nat) (hE : E < T.length) (hi : i ≤ 8) (h8 : 8 ≤ E) : zA (tlE n E T i) j = if E < j + i ∧ j ≤ E then lenC n (E - j) else zA T j := by
  induction i with
  | zero => rw [if_neg (by omega)]; rfl
  | succ i ih =>
    show zA ((tlE n E T i).set (E - i) (lenC n i)) j = _
    rw [at_set _ _ _ _ (by rw [tlE_length]; omega), ih (by omega)]
    by_cases h : j = E - i
    · rw [if_pos h, if_pos (by omega), show E - j = i by omega]
    · rw [if_neg h]
      by_cases h2 : E < j + i ∧ j ≤ E
      · rw [if_pos h2, if_pos (by omega)]
      · rw [if_neg h2, if_neg (by omega)]
theorem at_lenL (n t s : Nat) (h : s < t) : zA (lenL n t) s = lenC n (7 - s) := by
  induction t with
  | zero => omega
  | succ t ih =>
    show zA (lenL n t ++ [lenC n (7 - t)]) s = _
    rw [at_app, lenL_length]
    by_cases h2 : s < t
    · rw [if_pos h2, ih h2]
    · rw [if_neg h2, show s = t by omega, Nat.sub_self]; rfl
theorem padD_length (zs : List Int) : (padD zs).length = zs.length + 1 + gapN (zs.length + 1) + 8 := by
  simp [padD, lenL_length]; omega
theorem at_pad (zs : List Int) (i : Nat) : zA (padD zs) i = if i < zs.length then zA zs i else if i = zs.length then 128 else if i < zs.length + 1 + gapN (zs.length + 1) then 0 else zA (lenL zs.length 8) (i - (zs.length + 1 + gapN (zs.length + 1))) := by
  unfold padD
  rw [at_app]
  simp only [List.length_append, List.length_replicate, List.length_cons, List.length_nil, Nat.zero_add]
  by_cases h1 : i < zs.length + 1 + gapN (zs.length + 1)
  · rw [if_pos h1, at_app]
    simp only [List.length_append, List.length_cons, List.length_nil, Nat.zero_add]
    by_cases h2 : i < zs.length + 1
    · rw [if_pos h2, at_app]
      by_cases h3 : i < zs.length
      · rw [if_pos h3, if_pos h3]
      · rw [if_neg h3, if_neg h3, if_pos (by omega), show i - zs.length = 0 by omega]; rfl
    · rw [if_neg h2, at_rep, if_neg (by omega), if_neg (by omega), if_pos h1]
  · rw [if_neg h1, if_neg (by omega), if_neg (by omega), if_neg h1]
/-- The eight words behind k blocks of padded bytes. -/
def blksD (v : V8) (ps : List Int) : Nat → V8
  | 0 => v
  | k + 1 => blockV (blksD v ps k) ((ps.drop (64 * k)).take 64)
def shaD (zs : List Int) : S4 := sumV (blksD H0 (padD zs) ((padD zs).length / 64))
theorem blks_same (v : V8) (zs : List Int) (k : Nat) (h : 64 * k ≤ zs.length) : blksD v (padD zs) k = blksV v zs k := by
  induction k with
  | zero => rfl
  | succ k ih =>
    show blockV (blksD v (padD zs) k) _ = blockV (blksV v zs k) _
    rw [ih (by omega), ← blockV_take _ (zs.drop (64 * k))]
    congr 1
    refine ext_at (by simp [padD_length]; omega) fun i hi => ?_
    have hi' : i < 64 := by rw [List.length_take] at hi; omega
    rw [at_take _ _ _ hi', at_take _ _ _ hi', at_drop, at_drop, at_pad, if_pos (by omega)]
theorem at_tail (n E : Nat) (ms : List Int) (j : Nat) (hE : E < 128) (h8 : 8 ≤ E) (hm : ms.length < 128) : zA (tailE n E ms) j = if E < j + 8 ∧ j ≤ E then lenC n (E - j) else if j = ms.length then 128 else if j < ms.length then zA ms j else 0 := by
  unfold tailE
  have hl : (ms ++ List.replicate (128 - ms.length) 0).length = 128 := by simp; omega
  rw [at_tlE _ _ _ _ _ (by rw [List.length_set, hl]; exact hE) (Nat.le_refl _) h8, at_set _ _ _ _ (by rw [hl]; exact hm), at_app, at_rep]
theorem tail_length (n E : Nat) (ms : List Int) (hm : ms.length < 128) : (tailE n E ms).length = 128 := by
  unfold tailE
  rw [tlE_length]
  simp; omega
theorem sha_same (zs : List Int) : shaA zs = shaD zs := by
  unfold shaA shaD
  generalize hn : zs.length = n
  have hk : 64 * (n / 64) ≤ zs.length := by omega
  have hms : (zs.drop (64 * (n / 64))).length = n % 64 := by rw [List.length_drop]; omega
  rw [padD_length, hn]
  by_cases h : n % 64 < 56
  · have hg : gapN (n + 1) = 55 - n % 64 := by unfold gapN; omega
    rw [if_pos h, show (n + 1 + gapN (n + 1) + 8) / 64 = n / 64 + 1 by omega]
    unfold shaLo
    congr 1
    show _ = blockV (blksD H0 (padD zs) (n / 64)) _
    rw [blks_same _ _ _ hk]
    congr 1
    refine ext_at (by rw [List.length_take, List.length_take, tail_length _ _ _ (by omega), List.length_drop, padD_length, hn]; omega) fun j hj => ?_
    have hj' : j < 64 := by rw [List.length_take] at hj; omega
    rw [at_take _ _ _ hj', at_take _ _ _ hj', at_drop, at_tail _ _ _ _ (by omega) (by omega) (by omega), at_pad, hn, hms, at_drop]
    by_cases a1 : 63 < j + 8 ∧ j ≤ 63
    · rw [if_pos a1, if_neg (by omega), if_neg (by omega), if_neg (by omega), at_lenL _ _ _ (by omega)]
      congr 1; omega
    · rw [if_neg a1]
      by_cases a2 : j = n % 64
      · rw [if_pos a2, if_neg (by omega), if_pos (by omega)]
      · rw [if_neg a2]
        by_cases a3 : j < n % 64
        · rw [if_pos a3, if_pos (by omega)]
        · rw [if_neg a3, if_neg (by omega), if_neg (by omega), if_pos (by omega)]
  · have hg : gapN (n + 1) = 119 - n % 64 := by unfold gapN; omega
    rw [if_neg h, show (n + 1 + gapN (n + 1) + 8) / 64 = n / 64 + 1 + 1 by omega]
    unfold shaHi
    congr 1
    show _ = blockV (blockV (blksD H0 (padD zs) (n / 64)) _) _
    rw [blks_same _ _ _ hk]
    have key : ∀ j, j < 128 → zA (tailE n 127 (zs.drop (64 * (n / 64)))) j = zA (padD zs) (64 * (n / 64) + j) := fun j hj => by
      rw [at_tail _ _ _ _ (by omega) (by omega) (by omega), at_pad, hn, hms, at_drop]
      by_cases a1 : 127 < j + 8 ∧ j ≤ 127
      · rw [if_pos a1, if_neg (by omega), if_neg (by omega), if_neg (by omega), at_lenL _ _ _ (by omega)]
        congr 1; omega
      · rw [if_neg a1]
        by_cases a2 : j = n % 64
        · rw [if_pos a2, if_neg (by omega), if_pos (by omega)]
        · rw [if_neg a2]
          by_cases a3 : j < n % 64
          · rw [if_pos a3, if_pos (by omega)]
          · rw [if_neg a3, if_neg (by omega), if_neg (by omega), if_pos (by omega)]
    have hTL := tail_length n 127 (zs.drop (64 * (n / 64))) (by omega)
    have e1 : (tailE n 127 (zs.drop (64 * (n / 64)))).take 64 = ((padD zs).drop (64 * (n / 64))).take 64 := by
      refine ext_at (by rw [List.length_take, List.length_take, hTL, List.length_drop, padD_length, hn]; omega) fun j hj => ?_
      have hj' : j < 64 := by rw [List.length_take] at hj; omega
      rw [at_take _ _ _ hj', at_take _ _ _ hj', at_drop, key _ (by omega)]
    have e2 : (tailE n 127 (zs.drop (64 * (n / 64)))).drop 64 = ((padD zs).drop (64 * (n / 64 + 1))).take 64 := by
      refine ext_at (by rw [List.length_take, List.length_drop, hTL, List.length_drop, padD_length, hn]; omega) fun j hj => ?_
      have hj' : j < 64 := by rw [List.length_drop, hTL] at hj; omega
      rw [at_take _ _ _ hj', at_drop, at_drop, key _ (by omega)]
      congr 1; omega
    rw [e1, e2]
end
section
open Go.RowKit
set_option maxRecDepth 100000

set_option maxHeartbeats 1600000 in
theorem of_sha2 (p : Option Addr) (n c : Nat) (zs : List Int) (w : World) (hn : zs.length = n) (hnc : n ≤ c) (hnb : n ≤ 9223372036854775807) (hrd : Rd w p zs) (hb : ∀ z ∈ zs, 0 ≤ z ∧ z < 256) (hpr : Primes w) :
    Calls Tryd.prog 75 #[.int .i64 2, .slice p n c] w fun e w' => e = .returned (.tuple #[.agg (shaD zs).arr, .int .i64 0]) ∧ Frm [] w w' := by
  have hfa : Frm [] w (w.alloc (.cells #[.int .u64 0, .int .u64 0, .int .u64 0, .int .u64 0] 68)) := (Frm.refl _ _).alloc _
  have HA := hid (heap_alloc_new w (.cells #[.int .u64 0, .int .u64 0, .int .u64 0, .int .u64 0] 68))
  have HSH := hid (sha_any p n c zs (w.alloc (.cells #[.int .u64 0, .int .u64 0, .int .u64 0, .int .u64 0] 68)) hn hnc hnb (hrd.kept hfa (by simp)) hb (hpr.kept hfa))
  have HFA := hid hfa
  rw [sha_same] at HSH
  clear hrd hb hn hpr hfa hnc hnb
  go_enter Tryd.func75, Tryd.ntmps75
  go_wp2_with fail
  refine HSH.out.mono ?_
  rintro e w6 ⟨rfl, hf6⟩
  have hco := hf6.heap HA.out (by simp)
  obtain ⟨S, hS⟩ : ∃ S, shaD zs = S := ⟨_, rfl⟩
  rw [hS]
  have HS := hid hS
  unfold S4.arr
  obtain ⟨sb, hsb⟩ : ∃ sb, w.heap.size = sb := ⟨_, rfl⟩
  have HSB := hid hsb
  rw [hsb] at hco ⊢
  have e0 : w6.cell? ⟨sb, 0, none⟩ = some (.int .u64 0) := by rw [cell_of_row w6 _ _ _ _ _ hco]; rfl
  have z0 : w6.frozen? ⟨sb, 0, none⟩ = false := frozen_of_row w6 _ 0 _ _ hco
  have e1 : w6.cell? ⟨sb, 1, none⟩ = some (.int .u64 0) := by rw [cell_of_row w6 _ _ _ _ _ hco]; rfl
  have z1 : w6.frozen? ⟨sb, 1, none⟩ = false := frozen_of_row w6 _ 1 _ _ hco
  have e2 : w6.cell? ⟨sb, 2, none⟩ = some (.int .u64 0) := by rw [cell_of_row w6 _ _ _ _ _ hco]; rfl
  have z2 : w6.frozen? ⟨sb, 2, none⟩ = false := frozen_of_row w6 _ 2 _ _ hco
  have e3 : w6.cell? ⟨sb, 3, none⟩ = some (.int .u64 0) := by rw [cell_of_row w6 _ _ _ _ _ hco]; rfl
  have z3 : w6.frozen? ⟨sb, 3, none⟩ = false := frozen_of_row w6 _ 3 _ _ hco
  have HS4 := hid (set4 (y0 := .int .u64 S.a) (y1 := .int .u64 S.b) (y2 := .int .u64 S.c) (y3 := .int .u64 S.d) hco)
  have HF6 := hid (HFA.out.trans hf6 (by simp))
  clear hco hf6 hS hsb HSH HA
  go_wp2_with fail
  obtain ⟨h4, f4⟩ := HS4.out
  obtain ⟨wz, hwz⟩ : ∃ wz, (((w6.setCell ⟨sb, 0, none⟩ (.int .u64 S.a)).setCell ⟨sb, 1, none⟩ (.int .u64 S.b)).setCell ⟨sb, 2, none⟩ (.int .u64 S.c)).setCell ⟨sb, 3, none⟩ (.int .u64 S.d) = wz := ⟨_, rfl⟩
  rw [hwz] at h4 f4 ⊢
  have g0 : wz.cell? ⟨sb, 0, none⟩ = some (.int .u64 S.a) := by rw [cell_of_row wz _ _ _ _ _ h4]; rfl
  have g1 : wz.cell? ⟨sb, 1, none⟩ = some (.int .u64 S.b) := by rw [cell_of_row wz _ _ _ _ _ h4]; rfl
  have g2 : wz.cell? ⟨sb, 2, none⟩ = some (.int .u64 S.c) := by rw [cell_of_row wz _ _ _ _ _ h4]; rfl
  have g3 : wz.cell? ⟨sb, 3, none⟩ = some (.int .u64 S.d) := by rw [cell_of_row wz _ _ _ _ _ h4]; rfl
  refine bodyPost_ret (v := .tuple #[.agg #[.int .u64 S.a, .int .u64 S.b, .int .u64 S.c, .int .u64 S.d], .int .i64 0]) (by simp [results, Tryd.results75, go_sem, g0, g1, g2, g3]) rfl ⟨by rw [HS.out]; rfl, HF6.out.trans f4 (fun i hi hl => by simp at hi; have := HSB.out; omega)⟩
set_option maxHeartbeats 1600000 in
theorem of_no (kind : Int) (p : Option Addr) (n c : Nat) (w : World) (h1 : kind ≠ 1) (h2 : kind ≠ 2) :
    Calls Tryd.prog 75 #[.int .i64 kind, .slice p n c] w fun e w' => e = .returned (.tuple #[.agg Z4.arr, .int .i64 20]) ∧ Frm [] w w' := by
  have HA := hid (heap_alloc_new w (.cells #[.int .u64 0, .int .u64 0, .int .u64 0, .int .u64 0] 68))
  have HFA : Hid (Frm [] w (w.alloc (.cells #[.int .u64 0, .int .u64 0, .int .u64 0, .int .u64 0] 68))) := hid ((Frm.refl _ _).alloc _)
  have b1 : (kind == 1) = false := by simpa using h1
  have b2 : (kind == 2) = false := by simpa using h2
  go_enter Tryd.func75, Tryd.ntmps75
  go_wp2_with fail
  go_returns
  exact ⟨rfl, HFA.out⟩
/-- What Of answers. -/
def ofS (kind : Int) (zs : List Int) : S4 × Int := if kind = 1 then (fletch zs, 0) else if kind = 2 then (shaD zs, 0) else (Z4, 20)
theorem of_any (kind : Int) (p : Option Addr) (n c : Nat) (zs : List Int) (w : World) (hn : zs.length = n) (hnc : n ≤ c) (hnb : n ≤ 9223372036854775807) (hrd : Rd w p zs) (hb : ∀ z ∈ zs, 0 ≤ z ∧ z < 256) (hpr : Primes w) :
    Calls Tryd.prog 75 #[.int .i64 kind, .slice p n c] w fun e w' => e = .returned (.tuple #[.agg (ofS kind zs).1.arr, .int .i64 (ofS kind zs).2]) ∧ Frm [] w w' := by
  unfold ofS
  by_cases h1 : kind = 1
  · subst h1
    simp only [if_true]
    exact of_fl p n c zs w hn hnc hnb hrd hb
  by_cases h2 : kind = 2
  · subst h2
    simp only [if_true, if_neg h1]
    exact of_sha2 p n c zs w hn hnc hnb hrd hb hpr
  simp only [if_neg h1, if_neg h2]
  exact of_no kind p n c w h1 h2
def chkB (kind : Int) (s : S4) (zs : List Int) : Bool := decide ((ofS kind zs).2 = 0) && (ofS kind zs).1.eqB s
end
section
open Go.RowKit Go.Lib
set_option maxRecDepth 100000

theorem FreshW.with_ {w0 w : World} {b : Nat} {room : Int} {s : List Int × Int} {A : List Nat} (h : FreshW w0 w b room s []) (hA : ∀ k ∈ A, k < w0.heap.size) : FreshW w0 w b room s A := by
  obtain ⟨fp, h1, h2, h3, _⟩ := h
  exact ⟨fp, h1, h2, h3, fun k hk => ⟨fun hm => by have := h3 k hm; have := hA k hk; omega, Nat.lt_of_lt_of_le (hA k hk) h2.size⟩⟩
set_option maxHeartbeats 1600000 in
theorem seal_any (p : Option Addr) (n c : Nat) (zs : List Int) (w : World) (hn : zs.length = n) (hnc : n ≤ c) (hnb : n ≤ 9223372036854775807) (hrd : Rd w p zs) (hb : ∀ z ∈ zs, 0 ≤ z ∧ z < 256) (hpr : Primes w) :
    Calls Tryd.prog 50 #[.slice p n c] w fun e w' => e = .returned (.int .u64 (shaD zs).a) ∧ Frm [] w w' := by
  have HOF := hid (of_sha2 p n c zs w hn hnc hnb hrd hb hpr)
  obtain ⟨S, hS⟩ : ∃ S, shaD zs = S := ⟨_, rfl⟩
  rw [hS] at HOF ⊢
  unfold S4.arr at HOF
  clear hn hrd hb hpr hS
  go_enter Tryd.func50, Tryd.ntmps50
  go_wp2_with fail
  refine HOF.out.mono ?_
  rintro e w1 ⟨rfl, hf1⟩
  have HF1 := hid hf1
  clear hf1 HOF
  go_wp2_with fail
  first | go_returns | skip
  exact ⟨rfl, HF1.out.alloc _⟩
theorem shaD_bd (zs : List Int) : 0 ≤ (shaD zs).a ∧ (shaD zs).a < 18446744073709551616 := by
  unfold shaD sumV pairW
  generalize blksD H0 (padD zs) ((padD zs).length / 64) = v
  show 0 ≤ IntKind.u64.wrap ((BitVec.ofInt 64 (v.a * 4294967296) ||| BitVec.ofInt 64 v.b).toNat : Int) ∧ IntKind.u64.wrap ((BitVec.ofInt 64 (v.a * 4294967296) ||| BitVec.ofInt 64 v.b).toNat : Int) < 18446744073709551616
  rw [IntKind.wrap_u64]
  omega
/-- What is between a frame's length and its sum. -/
def inQ (r : Rq) (ds : List Int) : List Int := [1] ++ bodyQ r ds
/-- A request's frame. -/
def frm (b : List Int) : List Int := le (b.length + 8) 4 ++ b ++ le (shaD b).a 8
def errQ (r : Rq) : Int := if MayQ r then 0 else 230
theorem inQ_len {r : Rq} {ds : List Int} (hm : MayQ r) (hl : ds.length = r.dl) : 1 ≤ (inQ r ds).length ∧ (inQ r ds).length ≤ 3100 := by
  obtain ⟨_, _, _, m3, m4, m5, m6, _, _, m9⟩ := hm
  have h := txT_len [r.name, r.item, r.other, r.path] (by intro s hs; simp at hs; rcases hs with rfl | rfl | rfl | rfl <;> assumption) 4
  unfold inQ bodyQ
  simp only [List.length_append, le_length, List.length_cons, List.length_nil]
  omega
theorem txF_bd (s : ByteArray) : ∀ z ∈ txF s, 0 ≤ z ∧ z < 256 := by
  intro z hz
  unfold txF at hz
  rcases List.mem_append.1 hz with h | h
  · exact le_bd _ _ z h
  · exact tx_bd s z h
theorem txT_bd (L : List ByteArray) : ∀ t, ∀ z ∈ txT L t, 0 ≤ z ∧ z < 256
  | 0 => by simp [txT]
  | t + 1 => by
    intro z hz
    rw [txT] at hz
    rcases List.mem_append.1 hz with h | h
    · exact txT_bd L t z h
    · exact txF_bd _ z h
theorem inQ_bd {r : Rq} {ds : List Int} (hd : ∀ z ∈ ds, 0 ≤ z ∧ z < 256) : ∀ z ∈ inQ r ds, 0 ≤ z ∧ z < 256 := by
  intro z hz
  unfold inQ bodyQ at hz
  simp only [List.mem_append, List.mem_singleton] at hz
  rcases hz with rfl | ((((((((h | h) | h) | h) | h) | h) | h) | h))
  · omega
  · exact le_bd _ _ z h
  · exact le_bd _ _ z h
  · exact le_bd _ _ z h
  · exact txT_bd _ _ z h
  · exact le_bd _ _ z h
  · exact le_bd _ _ z h
  · exact le_bd _ _ z h
  · exact hd z h
def EncF (w : World) (zs : List Int) (err : Int) (e : Ending) (w' : World) : Prop := Frm [] w w' ∧ ((err ≠ 0 ∧ e = .returned (.tuple #[.slice none 0 0, .int .i64 err])) ∨ (err = 0 ∧ ∃ g n, e = .returned (.tuple #[.slice (some ⟨g, 0, none⟩) n n, .int .i64 0]) ∧ n = zs.length ∧ w'.heap[g]? = some (.cells (bv zs).toArray 5 (0, 0)) ∧ w.heap.size ≤ g))
set_option maxHeartbeats 6400000 in
theorem layQ_any (r : Rq) (ds : List Int) (w : World) (hd : Rd w r.dp ds) (hl : ds.length = r.dl) (hn : ds = [] → r.dp = none → r.dc = 0) (hz : ∀ z ∈ ds, 0 ≤ z ∧ z < 256) (hpr : Primes w) :
    Calls Tryd.prog 26 #[.agg r.arr, .func (.func 27) #[] #[], .int .i64 1, .func (.func 28) #[] #[]] w (EncF w (frm (inQ r ds)) (errQ r)) := by
  obtain ⟨PO, hPO⟩ : ∃ PO : Ending → World → Prop, EncF w (frm (inQ r ds)) (errQ r) = PO := ⟨_, rfl⟩
  rw [hPO]
  have HP1 : Hid (∀ w', ¬ MayQ r → Frm [] w w' → PO (.returned (.tuple #[.slice none 0 0, .int .i64 230])) w') := hid (fun w' h1 h2 => by rw [← hPO]; exact ⟨h2, Or.inl (by unfold errQ; rw [if_neg h1]; exact ⟨by omega, rfl⟩)⟩)
  have HP2 : Hid (∀ g n w', MayQ r → n = (frm (inQ r ds)).length → w'.heap[g]? = some (.cells (bv (frm (inQ r ds))).toArray 5 (0, 0)) → w.heap.size ≤ g → Frm [] w w' → PO (.returned (.tuple #[.slice (some ⟨g, 0, none⟩) n n, .int .i64 0])) w') := hid (fun g n w' h1 h2 h3 h4 h5 => by rw [← hPO]; exact ⟨h5, Or.inr (by unfold errQ; rw [if_pos h1]; exact ⟨rfl, g, n, rfl, h2, h3, h4⟩)⟩)
  have HMQ := hid (fun W => mayQ_any r W)
  have HPT := hid (fun (w0 : World) (b : Nat) (A : List Nat) (W : World) (hw : FreshW w0 W b 65524 ([1], 0) A) (hm : MayQ r) (hdd : Rd W r.dp ds) (hb : ds ≠ [] → ∀ k ∈ blk r.dp, k ∈ A) => putQ_any w0 W b A 1 hw r hm ds hdd hl hn hb)
  have HD := hid (fun W (hf : Frm [] w W) => hd.kept hf (by simp))
  have HPR := hid hpr
  have HLN := hid (fun (hm : MayQ r) => inQ_len hm hl)
  have HBD := hid (inQ_bd (r := r) hz)
  have HLOW : Hid (ds ≠ [] → ∀ k ∈ blk r.dp, k < w.heap.size) := hid (fun h0 k hk => by
    rcases hd with h | ⟨g, o, he, hc⟩
    · exact absurd h h0
    · rw [he] at hk
      simp [blk] at hk
      subst hk
      have h1 := hc 0 (List.length_pos_iff.2 h0)
      exact World.block_lt_of_cell? w _ h1)
  have hrow := heap_alloc_new w (.cells r.arr 24)
  have HFA : Hid (Frm [] w (w.alloc (.cells r.arr 24))) := hid ((Frm.refl _ _).alloc _)
  obtain ⟨bx, hbx⟩ : ∃ z, w.heap.size = z := ⟨_, rfl⟩
  obtain ⟨wa, hwa⟩ : ∃ z, w.alloc (.cells r.arr 24) = z := ⟨_, rfl⟩
  rw [hwa] at HFA
  rw [hbx, hwa] at hrow
  have HROW := hid hrow
  obtain ⟨IN, hIN⟩ : ∃ z, inQ r ds = z := ⟨_, rfl⟩
  rw [hIN] at HP2 HLN HBD
  have HIN := hid hIN
  obtain ⟨q0, q1, q2, q3, q4, q5, q6, q7, q8, q9⟩ := rq_cells hrow
  clear hd hl hn hz hpr hrow hPO hIN
  by_cases hm : MayQ r
  case neg =>
    rw [decide_eq_false hm] at HMQ
    have HM := hid hm
    obtain ⟨ses, id, verb, name, item, other, path, at_, many, dp, dl, dc⟩ := r
    unfold Rq.arr at HMQ hwa ⊢
    simp only at HMQ hwa q0 q1 q2 q3 q4 q5 q6 q7 q8 q9 ⊢
    clear hm
    go_enter Tryd.func26, Tryd.ntmps26
    go_wp2_with fail
    refine (HMQ.out _).mono ?_
    rintro e w1 ⟨rfl, hf1⟩
    have HF1 := hid (HFA.out.trans hf1 (by simp))
    clear hf1
    go_wp2_with fail
    first | go_returns | skip
    exact HP1.out _ HM.out HF1.out
  rw [decide_eq_true hm] at HMQ
  have HM := hid hm
  have hln := HLN.out hm
  obtain ⟨hln0, hln1⟩ := hln
  have HRC : Hid (∀ W : World, Frm [] wa W → W.heap[bx]? = some (.cells r.arr 24 (0, 0))) := hid (fun W hf => hf.heap HROW.out (by simp))
  obtain ⟨A, hA⟩ : ∃ A : List Nat, (ds ≠ [] → ∀ k ∈ blk r.dp, k ∈ A) ∧ ∀ k ∈ A, k < wa.heap.size := by
    by_cases h0 : ds = []
    · exact ⟨[], fun h => absurd h0 h, by simp⟩
    · exact ⟨blk r.dp, fun _ k hk => hk, fun k hk => Nat.lt_of_lt_of_le (HLOW.out h0 k hk) HFA.out.size⟩
  have HA := hid hA
  obtain ⟨ses, id, verb, name, item, other, path, at_, many, dp, dl, dc⟩ := r
  unfold Rq.arr at HMQ HPT hwa ⊢
  simp only at HMQ HPT hwa q0 q1 q2 q3 q4 q5 q6 q7 q8 q9 ⊢
  clear hm hA
  go_enter Tryd.func26, Tryd.ntmps26
  go_wp2_with fail
  refine (HMQ.out _).mono ?_
  rintro e w1 ⟨rfl, hf1⟩
  have HF1 := hid hf1
  clear hf1 HMQ q0 q1 q2 q3 q4 q5 q6 q7 q8 q9
  go_wp2_with fail
  refine (newWriter_any 65524 w1).mono ?_
  rintro e w2 ⟨rfl, hw2, hf2, _⟩
  have HW2 : Hid (FreshW wa w2 w1.heap.size 65524 ([], 0) A) := hid ((FreshW.born hw2 (HF1.out.trans hf2 (by simp)) HF1.out.size).with_ HA.out.2)
  obtain ⟨b, hb⟩ : ∃ b, w1.heap.size = b := ⟨_, rfl⟩
  rw [hb] at HW2 ⊢
  have hu1 : IntKind.u64.wrap 1 = 1 := by rfl
  clear hw2 hf2 hb
  go_wp2_with fail
  refine (num_fit wa w2 b 65524 [] A HW2.out (by omega) 1 1 (by omega) (by omega) (by omega) (by decide) (by simp)).mono ?_
  rintro e w3 ⟨rfl, hw3, _⟩
  have HW3 : Hid (FreshW wa w3 b 65524 ([1], 0) A) := hid (by have h := hw3; rw [show ([] : List Int) ++ le 1 1 = [1] from rfl] at h; exact h)
  have HF3 := hid hw3.frm
  obtain ⟨q0, q1, q2, q3, q4, q5, q6, q7, q8, q9⟩ := rq_cells (HRC.out w3 HF3.out)
  simp only at q0 q1 q2 q3 q4 q5 q6 q7 q8 q9
  have HDW := hid (HD.out w3 (HFA.out.trans HF3.out (by simp)))
  clear hw3 HW2
  go_wp2_with fail
  refine (HPT.out wa b A w3 HW3.out HM.out HDW.out HA.out.1).mono ?_
  rintro e w4 ⟨rfl, hw4, _⟩
  have HW4 : Hid (FreshW wa w4 b 65524 (IN, 0) A) := hid (by rw [← HIN.out]; exact hw4)
  clear hw4 HW3 q0 q1 q2 q3 q4 q5 q6 q7 q8 q9 HPT HDW
  go_wp2_with fail
  refine (doneWF_ok wa w4 b 65524 IN A HW4.out (by omega) (by omega)).mono ?_
  rintro e w5 ⟨g, rfl, hr5, hw5, _, hg5, hg5'⟩
  have HR5 := hid hr5
  have HF5 := hid hw5.frm
  have HG5 := hid hg5'
  obtain ⟨nI, hnI⟩ : ∃ z, IN.length = z := ⟨_, rfl⟩
  have HNI := hid hnI
  rw [hnI] at hln0 hln1 ⊢
  clear hr5 hw5 hg5 hg5' hnI HW4
  go_wp2_with fail
  refine (newWriter_any 65536 w5).mono ?_
  rintro e w6 ⟨rfl, hw6, hf6, _⟩
  have HW6 : Hid (FreshW w5 w6 w5.heap.size 65536 ([], 0) [g]) := hid ((FreshW.born hw6 hf6 (Nat.le_refl _)).with_ (by intro k hk; rw [List.mem_singleton] at hk; subst hk; exact HG5.out))
  have HR6 := hid (HR5.out.kept hf6 (by simp))
  obtain ⟨b2, hb2⟩ : ∃ b, w5.heap.size = b := ⟨_, rfl⟩
  rw [hb2] at HW6 ⊢
  have hu2 : IntKind.u64.wrap ((nI : Int) + 8) = (nI : Int) + 8 := by rw [IntKind.wrap_u64]; omega
  have hu3 : wrap64 ((nI : Int) + 8) = (nI : Int) + 8 := by unfold wrap64; omega
  clear hw6 hf6 hb2 HR5
  go_wp2_with fail
  refine (num_fit w5 w6 b2 65536 [] [g] HW6.out (by omega) ((nI : Int) + 8) 4 (by omega) (by omega) (by omega) (by omega) (by simp)).mono ?_
  rintro e w7 ⟨rfl, hw7, hk7⟩
  have HW7 := hid hw7
  have HR7 := hid (HR6.out.keeps hk7 (by simp [blk]))
  clear hw7 hk7 HW6 HR6 hu2 hu3
  go_wp2_with fail
  have hbf := bytes_fit w5 w7 b2 65536 _ [g] HW7.out (by omega) (some ⟨g, 0, none⟩) IN nI (fun _ h => by cases h) HR7.out (by rw [HNI.out]; simp [le_length]; omega)
  rw [HNI.out] at hbf
  refine hbf.mono ?_
  rintro e w8 ⟨rfl, hw8, hk8⟩
  have HW8 := hid hw8
  have HR8 := hid (HR7.out.keeps hk8 (by simp [blk]))
  have HF8 := hid hw8.frm
  clear hw8 hk8 hbf HW7 HR7
  have HSE := hid (seal_any (some ⟨g, 0, none⟩) nI nI IN w8 HNI.out (Nat.le_refl _) (by omega) HR8.out HBD.out (((HPR.out.kept HFA.out).kept HF5.out).kept HF8.out))
  obtain ⟨SA, hSA⟩ : ∃ z, (shaD IN).a = z := ⟨_, rfl⟩
  have HSB := hid (shaD_bd IN)
  rw [hSA] at HSE HSB
  have HSA := hid hSA
  clear hSA
  go_wp2_with fail
  refine HSE.out.mono ?_
  rintro e w9 ⟨rfl, hf9⟩
  have HW9 : Hid (FreshW w5 w9 b2 65536 (([] ++ le ((nI : Int) + 8) 4) ++ IN, 0) []) := hid (by
    obtain ⟨fp, g1, g2, g3, g4⟩ := HW8.out
    exact ⟨fp, g1.kept hf9 (by simp), g2.trans hf9 (by simp), g3, by simp⟩)
  clear hf9 HSE HW8 HR8
  go_wp2_with fail
  refine (num_fit w5 w9 b2 65536 _ [] HW9.out (by omega) SA 8 HSB.out.1 (by omega) (by omega) HSB.out.2 (by simp [le_length]; have := HNI.out; omega)).mono ?_
  rintro e w10 ⟨rfl, hw10, _⟩
  have HW10 : Hid (FreshW w5 w10 b2 65536 (frm IN, 0) []) := hid (by
    unfold frm
    rw [HNI.out, HSA.out]
    have h := hw10
    rw [List.nil_append] at h
    exact h)
  have HFL : Hid ((frm IN).length = nI + 12) := hid (by unfold frm; simp only [List.length_append, le_length, HNI.out]; omega)
  clear hw10 HW9
  go_wp2_with fail
  obtain ⟨fp, g1, g2, g3, _⟩ := HW10.out
  refine (doneW_ok b2 fp 65536 (frm IN) w10 g1 (by omega) (by rw [HFL.out]; omega)).mono ?_
  rintro e w11 ⟨gz, rfl, h11, hf11, hg11⟩
  have HE := hid (HP2.out gz (frm IN).length w11 HM.out rfl h11 (by have := HFA.out.size; have := HF5.out.size; have := g2.size; omega) (((HFA.out.trans HF5.out (by simp)).trans g2 (by simp)).trans hf11 (by simp)))
  clear g1 g2 g3 h11 hf11 hg11 HW10
  go_wp2_with fail
  first | go_returns | skip
  exact HE.out
end
section
section
variable {P : Program} {ops : Array Oper} {Q : Exit → Act → World → Prop} {md : Region.Mode} {S : World → Prop}
theorem wpAnyHT_two {n i j : Nat} {L : Array Bool → Act → World → Prop} {oi oj : Oper} {fuel : Nat} {listed : Array Bool} {a : Act} {w : World} (hi : ops[i]? = some oi) (hj : ops[j]? = some oj) (hr : Region.ready md ops listed = [i, j]) (hin : decide (i < n) = true) (hjn : decide (j < n) = true)
    (h1 : ∀ K' : Act → World → Prop, (∀ a w, S w → wpAnyHT P md ops Q S n L fuel (listed.setIfInBounds i true) a w → K' a w) → if Region.wanted oi (yielded ops a.tmps) = true then Oper.wp P oi a w K' Q else K' (a.put oi.dst undef) w)
    (h2 : ∀ K' : Act → World → Prop, (∀ a w, S w → wpAnyHT P md ops Q S n L fuel (listed.setIfInBounds j true) a w → K' a w) → if Region.wanted oj (yielded ops a.tmps) = true then Oper.wp P oj a w K' Q else K' (a.put oj.dst undef) w) :
    wpAnyHT P md ops Q S n L (fuel + 1) listed a w := by
  refine ⟨by rw [hr]; simp, fun k hk => ?_⟩
  rw [hr, List.mem_cons, List.mem_singleton] at hk
  rcases hk with rfl | rfl
  · exact ⟨of_decide_eq_true hin, wpOp_step hi (fun K' hK => h1 K' (fun a w hS hW => hK a w ⟨hS, hW⟩))⟩
  · exact ⟨of_decide_eq_true hjn, wpOp_step hj (fun K' hK => h2 K' (fun a w hS hW => hK a w ⟨hS, hW⟩))⟩
end
end
end Go.Proofs.YtignoocdeghiaaaDoor
