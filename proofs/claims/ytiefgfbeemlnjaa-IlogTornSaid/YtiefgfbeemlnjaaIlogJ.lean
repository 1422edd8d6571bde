/- Plain facts on a region's bytes: which record begins there. -/
import Derived.Test.YtiefgfbeemlnjaaIlogI
namespace Go.Proofs.Ytiefgfbeemlnjaa
open Go.RowKit
set_option maxRecDepth 100000

theorem recT_piece (base next all : Nat) (zs : List Int) (i t : Nat) (h : i < t) : ((recT base next all zs t).drop (i * 88)).take 88 = pieceB base next i all zs := by
  induction t with
  | zero => omega
  | succ t ih =>
    rw [recT_succ]
    by_cases hi : i < t
    · have hl : i * 88 + 88 ≤ t * 88 := by omega
      rw [List.drop_append_of_le_length (by rw [recT_length]; omega), List.take_append_of_le_length (by rw [List.length_drop, recT_length]; omega)]
      exact ih hi
    · obtain rfl : i = t := by omega
      have hl := recT_length base next all zs i
      rw [← hl, List.drop_left, List.take_of_length_le (by rw [pieceB_length]; omega)]
/-- The pieces of a record that a region begins with. -/
theorem pre_piece {base next : Nat} {body zs : List Int} (h : recB base next body <+: zs) (i : Nat) (hi : i < pcs body.length) : (zs.drop (i * 88)).take 88 = pieceB base next i (pcs body.length) body := by
  obtain ⟨r, rfl⟩ := h
  have hl := recB_length base next body
  have h1 : i * 88 + 88 ≤ pcs body.length * 88 := by omega
  rw [List.drop_append_of_le_length (by omega), List.take_append_of_le_length (by rw [List.length_drop]; omega)]
  exact recT_piece _ _ _ _ _ _ hi
theorem pieces_pre {base next all : Nat} {body zs : List Int} (t : Nat) (h : ∀ i, i < t → (zs.drop (i * 88)).take 88 = pieceB base next i all body) : zs.take (t * 88) = recT base next all body t := by
  induction t with
  | zero => simp [recT]
  | succ t ih =>
    rw [show (t + 1) * 88 = t * 88 + 88 by omega, List.take_add, ih (fun i hi => h i (by omega)), h t (by omega), recT_succ]
theorem pre_of_pieces {base next : Nat} {body zs : List Int} (h : ∀ i, i < pcs body.length → (zs.drop (i * 88)).take 88 = pieceB base next i (pcs body.length) body) : recB base next body <+: zs := by
  have := pieces_pre (pcs body.length) h
  unfold recB
  rw [← this]
  exact List.take_prefix _ _
theorem headB_many (base next i all bytes : Nat) : (headB base next i all bytes).drop 16 = le bytes 4 := by
  unfold headB
  have h : (le (base : Int) 8 ++ le (next : Int) 4 ++ le (i : Int) 2 ++ le (all : Int) 2).length = 16 := by simp [le_length]
  rw [← h, List.drop_left]
/-- How many bytes the first piece tells. -/
theorem pre_many {base next : Nat} {body zs : List Int} (h : recB base next body <+: zs) : (zs.drop 16).take 4 = le body.length 4 := by
  have h0 := pre_piece h 0 (pcs_pos _)
  rw [Nat.zero_mul, List.drop_zero, pieceB_flat] at h0
  have h1 : (zs.drop 16).take 4 = ((zs.take 88).drop 16).take 4 := by
    rw [List.drop_take, List.take_take]
    rfl
  rw [h1, h0, List.drop_append_of_le_length (by rw [headB_length]; omega), headB_many, List.take_left' (le_length _ _)]
/-- The bytes that a region's pieces hold, of so many. -/
def bodyT (zs : List Int) (N t : Nat) : List Int := (List.range t).flatMap fun i => (zs.drop (i * 88 + 20)).take (min 68 (N - i * 68))
theorem bodyT_succ (zs : List Int) (N t : Nat) : bodyT zs N (t + 1) = bodyT zs N t ++ (zs.drop (t * 88 + 20)).take (min 68 (N - t * 68)) := by
  unfold bodyT; rw [List.range_succ, List.flatMap_append]; simp
theorem bodyT_length (zs : List Int) (N t : Nat) (h : t * 88 ≤ zs.length) : (bodyT zs N t).length = min (t * 68) N := by
  induction t with
  | zero => simp [bodyT]
  | succ t ih =>
    rw [bodyT_succ, List.length_append, ih (by omega), List.length_take, List.length_drop]
    omega
theorem piece_body (base next i all : Nat) (body : List Int) : ((pieceB base next i all body).drop 20).take (min 68 (body.length - i * 68)) = (body.drop (i * 68)).take 68 := by
  have hh := headB_length base next i all body.length
  rw [pieceB_flat, ← hh, List.drop_left, ← body_flat, List.take_left' (by rw [List.length_take, List.length_drop])]
theorem bodyT_of {base next all : Nat} {body zs : List Int} (t : Nat) (h : ∀ i, i < t → (zs.drop (i * 88)).take 88 = pieceB base next i all body) : bodyT zs body.length t = body.take (t * 68) := by
  induction t with
  | zero => simp [bodyT]
  | succ t ih =>
    rw [bodyT_succ, ih (fun i hi => h i (by omega)), show (t + 1) * 68 = t * 68 + 68 by omega, List.take_add, ← piece_body base next t all body, ← h t (by omega)]
    congr 1
    rw [List.drop_take, List.take_take, List.drop_drop]
    congr 1
    omega
/-- A record that a region begins with is the one that its pieces tell. -/
theorem pre_body {base next : Nat} {body zs : List Int} (h : recB base next body <+: zs) : bodyT zs body.length (pcs body.length) = body := by
  rw [bodyT_of (pcs body.length) (fun i hi => pre_piece h i hi), List.take_of_length_le (by unfold pcs; omega)]
theorem bodyT_part (zs : List Int) (N t i : Nat) (hi : i < t) (h : t * 88 ≤ zs.length) : ((bodyT zs N t).drop (i * 68)).take 68 = (zs.drop (i * 88 + 20)).take (min 68 (N - i * 68)) := by
  have key : ∀ s, i < s → s * 88 ≤ zs.length → ((bodyT zs N s).drop (i * 68)).take 68 = (zs.drop (i * 88 + 20)).take (min 68 (N - i * 68)) := by
    intro s
    induction s with
    | zero => intro h; omega
    | succ s ih =>
      intro hs hl
      have hls := bodyT_length zs N s (by omega)
      rw [bodyT_succ]
      by_cases hlt : i < s
      · rw [← ih hlt (by omega)]
        by_cases hN2 : s * 68 ≤ N
        · have h1 : i * 68 + 68 ≤ s * 68 := by omega
          rw [List.drop_append_of_le_length (by rw [hls]; omega), List.take_append_of_le_length (by rw [List.length_drop, hls]; omega)]
        · rw [show N - s * 68 = 0 by omega]
          simp
      · obtain rfl : i = s := by omega
        by_cases hN2 : i * 68 ≤ N
        · rw [List.drop_append, hls, Nat.min_eq_left hN2, Nat.sub_self, List.drop_zero, List.drop_eq_nil_of_le (by rw [hls]; omega), List.nil_append, List.take_of_length_le (by rw [List.length_take]; omega)]
        · rw [show N - i * 68 = 0 by omega]
          simp
          omega
  exact key t hi h
end Go.Proofs.Ytiefgfbeemlnjaa
