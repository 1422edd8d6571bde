/- The statement CodeOneForm: the walk. -/
import Derived.Test.YtkbppkimpefilaaCutA
import Derived.Test.YtkbppkimpefilaaRowK
namespace Go.Proofs.Ytkbppkimpefilaa
open Go.RowKit
set_option maxRecDepth 100000

theorem conv_any {P : Program} {w : World} (src e dst : TypeId) (hs : P.underlying src = some (.slice e)) (he : P.underlying e = some (.int .u8)) (hd : P.underlying dst = some .string) {p : Option Addr} {n : Nat} {zs : List Int} (hrd : Rd w p zs) (cap : Nat) (hn : zs.length = n) :
    Sem.run P (convert src dst (.slice p n cap)) w = .ok (.string (strOfNums zs)) w := by
  rcases hrd with rfl | ⟨g, o, rfl, hc⟩
  · simp at hn
    subst hn
    cases p with
    | none => exact run_convert_bytes_nil (P := P) (w := w) src e hs he 0 cap dst hd
    | some a =>
      rw [run_convert_bytes_string w src dst e _ _ _ hs he hd, run_bytesToString w a 0 cap [] (by simp [loadCells, loadCellsFrom])]
      rfl
  · exact conv_rd src e dst hs he hd (Or.inr ⟨g, o, rfl, hc⟩) cap hn
theorem FreshW.other {w0 w w' : World} {b : Nat} {room : Int} {s : List Int × Int} {A S : List Nat} (h : FreshW w0 w b room s A) (hf : Frm S w w') (hS : ∀ k ∈ S, k ∈ A ∧ w0.heap.size ≤ k) : FreshW w0 w' b room s A := by
  obtain ⟨fp, h1, h2, h3, h4⟩ := h
  refine ⟨fp, h1.kept hf (fun k hk hs => (h4 k (hS k hs).1).1 hk), h2.trans hf (fun i hi hlt => absurd (hS i hi).2 (Nat.not_le.2 hlt)), h3, fun k hk => ⟨(h4 k hk).1, Nat.lt_of_lt_of_le (h4 k hk).2 hf.size⟩⟩
theorem IsR.keeps {w w' : World} {b g pos : Nat} {err : Int} {bs : List Int} (h : IsR w b g bs pos err) (hk : Keeps [b, g] w w') : IsR w' b g bs pos err :=
  ⟨(hk b (by simp)).trans h.1, (hk g (by simp)).trans h.2.1, h.2.2⟩
/-- What holds at each round's head: the reader stands at pos, the writer has just the bytes up to there. -/
def OneInv (w0 : World) (rb rg wb : Nat) (bs : List Int) (pos : Nat) (w : World) : Prop :=
  ∃ err, FreshR w0 w rb rg bs pos err ∧ FreshW w0 w wb bs.length (bs.take pos, 0) [rb, rg]
theorem OneInv.frm {w0 w : World} {rb rg wb pos : Nat} {bs : List Int} (h : OneInv w0 rb rg wb bs pos w) : Frm [] w0 w := by obtain ⟨_, h, _⟩ := h; exact h.2.1
theorem OneInv.same {w0 w w' : World} {rb rg wb pos : Nat} {bs : List Int} (h : OneInv w0 rb rg wb bs pos w) (hf : Frm [] w w') : OneInv w0 rb rg wb bs pos w' := by
  obtain ⟨err, h1, h2⟩ := h
  exact ⟨err, ⟨h1.1.kept hf (by simp) (by simp), h1.2.1.trans hf (by simp), h1.2.2⟩, h2.other hf (by simp)⟩
/-- Behind a reading call. -/
theorem OneInv.read {w0 w w' : World} {rb rg wb pos pos' : Nat} {err err' : Int} {bs : List Int} (h1 : FreshR w0 w rb rg bs pos err) (h2 : FreshW w0 w wb bs.length (bs.take pos, 0) [rb, rg]) (hr : IsR w' rb rg bs pos' err') (hf : Frm [rb] w w') :
    FreshR w0 w' rb rg bs pos' err' ∧ FreshW w0 w' wb bs.length (bs.take pos, 0) [rb, rg] :=
  ⟨h1.next hr hf, h2.other hf (by intro k hk; simp at hk; subst hk; exact ⟨by simp, h1.2.2.1⟩)⟩
/-- Behind a writing call. -/
theorem OneInv.write {w0 w w' : World} {rb rg wb pos pos' : Nat} {err : Int} {bs : List Int} {s : List Int × Int} (h1 : FreshR w0 w rb rg bs pos' err) (h2 : FreshW w0 w' wb bs.length s [rb, rg]) (hk : Keeps [rb, rg] w w') (hs : s = (bs.take pos, 0)) (hp : pos = pos') : OneInv w0 rb rg wb bs pos' w' := by
  subst hs; subst hp
  exact ⟨err, ⟨h1.1.keeps hk, h2.frm, h1.2.2⟩, h2⟩
theorem le_leV (zs : List Int) (h : ∀ z ∈ zs, 0 ≤ z ∧ z < 256) : le (leV zs) zs.length = zs := by
  induction zs with
  | nil => rfl
  | cons z zs ih =>
    have hz := h z (by simp)
    have ih := ih (fun y hy => h y (by simp [hy]))
    have hb := leV_bd zs (fun y hy => h y (by simp [hy]))
    rw [leV, List.length_cons, le, List.range_succ_eq_map, List.map_cons, List.map_map]
    congr 1
    · simp; omega
    · conv => rhs; rw [← ih]
      unfold le
      apply List.map_congr_left
      intro i _
      have e : (2 : Int) ^ (8 * (i + 1)) = 256 * 2 ^ (8 * i) := by rw [Nat.mul_add, Int.pow_add, Int.mul_comm]; rfl
      simp only [Function.comp, Nat.succ_eq_add_one]
      rw [e, ← Int.ediv_ediv_of_nonneg (by decide)]
      congr 2
      omega
theorem readS_ge {α : Type} (z : α) (pos : Nat) (err : Int) (r : α × Nat × Int) : pos ≤ (readS z pos err r).2.1 := by
  unfold readS
  split
  · simp
  · split
    · simp
    · simp
/-- Where nothing was taken nothing is laid down. -/
theorem OneInv.stay {w0 w : World} {rb rg wb pos pos' : Nat} {err : Int} {bs : List Int} (h1 : FreshR w0 w rb rg bs pos' err) (h2 : FreshW w0 w wb bs.length (bs.take pos, 0) [rb, rg]) (hge : pos ≤ pos') (hn : ¬ pos < pos') : OneInv w0 rb rg wb bs pos' w := by
  obtain rfl : pos = pos' := by omega
  exact ⟨err, h1, h2⟩
/-- What a number's reading took is laid down as it was. -/
theorem one_num {bs : List Int} (hb : ∀ z ∈ bs, 0 ≤ z ∧ z < 256) {pos : Nat} (hp : pos ≤ bs.length) {err k : Int} (hlt : pos < (readS 0 pos err (numT (bs.drop pos) k)).2.1) :
    stepW bs.length (bs.take pos, 0) (numF (readS 0 pos err (numT (bs.drop pos) k)).1 k) = (bs.take (readS 0 pos err (numT (bs.drop pos) k)).2.1, 0) ∧ 0 ≤ (readS 0 pos err (numT (bs.drop pos) k)).1 ∧ (readS 0 pos err (numT (bs.drop pos) k)).1 < 18446744073709551616 := by
  by_cases he : err = 0
  · subst he
    rw [readS_ok] at hlt ⊢
    by_cases hk : k < 1 ∨ 8 < k
    · have e : numT (bs.drop pos) k = (0, 0, 1) := by unfold numT; rw [if_pos hk]
      rw [e] at hlt; simp at hlt
    · by_cases h2 : ((bs.drop pos).length : Int) < k
      · have e : numT (bs.drop pos) k = (0, 0, 10) := by unfold numT; rw [if_neg hk, if_pos h2]
        rw [e] at hlt; simp at hlt
      · have e : numT (bs.drop pos) k = (leV ((bs.drop pos).take k.toNat), k.toNat, 0) := by unfold numT; rw [if_neg hk, if_neg h2]
        rw [e]
        simp only [if_true]
        obtain ⟨j, rfl⟩ : ∃ j : Nat, k = (j : Int) := ⟨k.toNat, by omega⟩
        simp only [Int.toNat_natCast]
        simp only [List.length_drop] at h2
        have hlen : ((bs.drop pos).take j).length = j := by simp; omega
        have hbd := leV_bd ((bs.drop pos).take j) (fun z hz => hb z (List.mem_of_mem_drop (List.mem_of_mem_take hz)))
        have hle := le_leV ((bs.drop pos).take j) (fun z hz => hb z (List.mem_of_mem_drop (List.mem_of_mem_take hz)))
        rw [hlen] at hbd hle
        have hdiv : leV ((bs.drop pos).take j) / 2 ^ (8 * j) = 0 := Int.ediv_eq_zero_of_lt hbd.1 hbd.2
        have hn : numF (leV ((bs.drop pos).take j)) j = ((bs.drop pos).take j, 0) := by
          unfold numF
          rw [if_neg hk, if_neg (by rw [Int.toNat_natCast]; intro h; exact h.2 hdiv), Int.toNat_natCast, hle]
        refine ⟨?_, hbd.1, ?_⟩
        · rw [hn]
          unfold stepW
          simp only [ne_eq, not_true, if_false]
          rw [if_neg (by rw [hlen, List.length_take]; omega), List.take_add]
        · have : (2 : Int) ^ (8 * j) ≤ 2 ^ 64 := by
            have := Nat.pow_le_pow_right (n := 2) (by decide) (show 8 * j ≤ 64 by omega)
            exact_mod_cast this
          have := hbd.2
          omega
  · rw [readS_err _ _ _ _ he] at hlt; simp at hlt
/-- What Bytes' reading took is laid down as it was. -/
theorem one_bytes {bs : List Int} {pos : Nat} (hp : pos ≤ bs.length) {err k : Int} :
    stepW bs.length (bs.take pos, 0) ((readS [] pos err (bytesT (bs.drop pos) k)).1, 0) = (bs.take (readS [] pos err (bytesT (bs.drop pos) k)).2.1, 0) := by
  by_cases he : err = 0
  · subst he
    rw [readS_ok]
    by_cases hk : k < 0
    · have e : bytesT (bs.drop pos) k = ([], 0, 1) := by unfold bytesT; rw [if_pos hk]
      rw [e]; simp [stepW]; omega
    · by_cases h2 : ((bs.drop pos).length : Int) < k
      · have e : bytesT (bs.drop pos) k = ([], 0, 10) := by unfold bytesT; rw [if_neg hk, if_pos h2]
        rw [e]; simp [stepW]; omega
      · have e : bytesT (bs.drop pos) k = ((bs.drop pos).take k.toNat, k.toNat, 0) := by unfold bytesT; rw [if_neg hk, if_neg h2]
        rw [e]
        simp only [List.length_drop] at h2
        unfold stepW
        simp only [ne_eq, not_true, if_false, if_true]
        rw [if_neg (by rw [List.length_take, List.length_take, List.length_drop]; omega), List.take_add]
  · rw [readS_err _ _ _ _ he]; simp [stepW]; omega
theorem tx_str (zs : List Int) (h : ∀ z ∈ zs, 0 ≤ z ∧ z < 256) : tx (strOfNums zs) = zs := by
  unfold tx
  rw [strOfNums_data, List.map_map]
  conv => rhs; rw [← List.map_id zs]
  apply List.map_congr_left
  intro z hz
  have := h z hz
  simp [Function.comp]
  omega
/-- What a text's reading took is laid down as it was. -/
theorem one_text {bs : List Int} (hb : ∀ z ∈ bs, 0 ≤ z ∧ z < 256) {pos : Nat} (hp : pos ≤ bs.length) {err k : Int} (hlt : pos < (readS [] pos err (textT (bs.drop pos) k)).2.1) :
    stepW bs.length (bs.take pos, 0) (textF (strOfNums (readS [] pos err (textT (bs.drop pos) k)).1)) = (bs.take (readS [] pos err (textT (bs.drop pos) k)).2.1, 0) := by
  by_cases he : err = 0
  · subst he
    rw [readS_ok] at hlt ⊢
    obtain ⟨ls, hls⟩ : ∃ ls, bs.drop pos = ls := ⟨_, rfl⟩
    have hlb : ∀ z ∈ ls, 0 ≤ z ∧ z < 256 := fun z hz => hb z (List.mem_of_mem_drop (by rw [hls]; exact hz))
    have hll : ls.length = bs.length - pos := by rw [← hls, List.length_drop]
    rw [hls] at hlt ⊢
    by_cases h1 : ls.length < 2
    · have e : textT ls k = ([], 0, 10) := by unfold textT; rw [if_pos h1]
      rw [e] at hlt; simp at hlt
    · by_cases h2 : k < leV (ls.take 2)
      · have e : textT ls k = ([], 0, 11) := by unfold textT; rw [if_neg h1, if_pos h2]
        rw [e] at hlt; simp at hlt
      · by_cases h3 : ls.length < 2 + (leV (ls.take 2)).toNat
        · have e : textT ls k = ([], 0, 10) := by unfold textT; rw [if_neg h1, if_neg h2, if_pos h3]
          rw [e] at hlt; simp at hlt
        · have e : textT ls k = ((ls.drop 2).take (leV (ls.take 2)).toNat, 2 + (leV (ls.take 2)).toNat, 0) := by unfold textT; rw [if_neg h1, if_neg h2, if_neg h3]
          rw [e]
          simp only [if_true]
          have hlen2 : (ls.take 2).length = 2 := by simp; omega
          have hbd := leV_bd (ls.take 2) (fun z hz => hlb z (List.mem_of_mem_take hz))
          have hle := le_leV (ls.take 2) (fun z hz => hlb z (List.mem_of_mem_take hz))
          rw [hlen2] at hbd hle
          obtain ⟨n, hn⟩ := Int.eq_ofNat_of_zero_le hbd.1
          rw [hn] at hbd hle h3 ⊢
          rw [Int.toNat_natCast] at h3 ⊢
          have hn2 : n < 65536 := by have := hbd.2; simp at this; omega
          have hlt2 : ((ls.drop 2).take n).length = n := by simp; omega
          have hsz : (strOfNums ((ls.drop 2).take n)).size = n := by rw [strOfNums_size, hlt2]
          have ht : textF (strOfNums ((ls.drop 2).take n)) = (ls.take (2 + n), 0) := by
            unfold textF
            rw [hsz, if_neg (by omega), hle, tx_str _ (fun z hz => hlb z (List.mem_of_mem_drop (List.mem_of_mem_take hz))), ← List.take_add]
          rw [ht]
          unfold stepW
          simp only [ne_eq, not_true, if_false]
          have e5 : bs.take (pos + (2 + n)) = bs.take pos ++ ls.take (2 + n) := by rw [List.take_add, hls]
          rw [if_neg (by rw [List.length_take, List.length_take]; omega), e5]
  · rw [readS_err _ _ _ _ he] at hlt; simp at hlt
theorem text_size {bs : List Int} {pos : Nat} (_hp : pos ≤ bs.length) (err k : Int) (hl : bs.length ≤ 2147483647) : (strOfNums (readS [] pos err (textT (bs.drop pos) k)).1).size ≤ maxLen := by
  rw [strOfNums_size]
  have h : (textT (bs.drop pos) k).1.length ≤ bs.length := by
    unfold textT
    split
    · simp
    · split
      · simp
      · split
        · simp
        · simp; omega
  unfold readS maxLen
  split
  · simp
  · split
    · simp only; omega
    · simp only; omega
/-- What noughts' reading took is laid down as it was. -/
theorem one_pad {bs : List Int} {pos : Nat} (hp : pos ≤ bs.length) {err k : Int} (hlt : pos < (readS () pos err (padT (bs.drop pos) pos k)).2.1) :
    stepW bs.length (bs.take pos, 0) (padF bs.length (bs.take pos).length k) = (bs.take (readS () pos err (padT (bs.drop pos) pos k)).2.1, 0) := by
  by_cases he : err = 0
  · subst he
    rw [readS_ok] at hlt ⊢
    obtain ⟨ls, hls⟩ : ∃ ls, bs.drop pos = ls := ⟨_, rfl⟩
    have hll : ls.length = bs.length - pos := by rw [← hls, List.length_drop]
    rw [hls] at hlt ⊢
    by_cases h1 : k < pos
    · have e : padT ls pos k = ((), 0, 11) := by unfold padT; rw [if_pos h1]
      rw [e] at hlt; simp at hlt
    · by_cases h2 : ((pos + ls.length : Nat) : Int) < k
      · have e : padT ls pos k = ((), 0, 10) := by unfold padT; rw [if_neg h1, if_pos h2]
        rw [e] at hlt; simp at hlt
      · by_cases h3 : ((ls.take (k - pos).toNat).all (· == 0)) = false
        · have e : padT ls pos k = ((), 0, 14) := by unfold padT; rw [if_neg h1, if_neg h2, if_pos h3]
          rw [e] at hlt; simp at hlt
        · have e : padT ls pos k = ((), (k - pos).toNat, 0) := by unfold padT; rw [if_neg h1, if_neg h2, if_neg h3]
          rw [e]
          simp only [if_true]
          have hz : ls.take (k - pos).toNat = List.replicate (k - pos).toNat 0 := by
            apply List.ext_getElem
            · simp; omega
            · intro i h4 h5
              have hall : ((ls.take (k - pos).toNat).all (· == 0)) = true := by simpa using h3
              rw [List.all_eq_true] at hall
              have := hall _ (List.getElem_mem h4)
              simpa using this
          have hlen : (bs.take pos).length = pos := by simp; omega
          have hpf : padF bs.length pos k = (List.replicate (k - pos).toNat 0, 0) := by unfold padF; rw [if_neg h1, if_neg (by omega)]
          rw [hlen, hpf]
          unfold stepW
          simp only [ne_eq, not_true, if_false]
          rw [if_neg (by rw [List.length_replicate, hlen]; omega), List.take_add, hls, hz]
  · rw [readS_err _ _ _ _ he] at hlt; simp at hlt
end Go.Proofs.Ytkbppkimpefilaa
