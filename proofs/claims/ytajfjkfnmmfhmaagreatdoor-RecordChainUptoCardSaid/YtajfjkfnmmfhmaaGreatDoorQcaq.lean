/- Records: plain facts: what is taken up is laid down as the same bytes. -/
import Derived.Test.YtajfjkfnmmfhmaaGreatDoorQcak
import Derived.Test.YtajfjkfnmmfhmaaGreatDoorQcap
import Derived.Test.YtajfjkfnmmfhmaaGreatDoorQcai
import Derived.Test.YtajfjkfnmmfhmaaGreatDoorQcac
import Derived.Test.YtajfjkfnmmfhmaaGreatDoorQcao
import Derived.Test.YtajfjkfnmmfhmaaGreatDoorQcam
import Derived.Test.YtajfjkfnmmfhmaaGreatDoorQcag
import Derived.Test.YtajfjkfnmmfhmaaGreatDoorQcan
import Derived.Test.YtajfjkfnmmfhmaaGreatDoorQcaa
import Derived.Test.YtajfjkfnmmfhmaaGreatDoorQcae
import Derived.Test.YtajfjkfnmmfhmaaGreatDoorQcad
import Derived.Test.YtajfjkfnmmfhmaaGreatDoorQcah
import Derived.Test.YtajfjkfnmmfhmaaGreatDoorQcal
import Derived.Test.YtajfjkfnmmfhmaaGreatDoorQcab
import Derived.Test.YtajfjkfnmmfhmaaGreatDoorQcaf
import Derived.Test.YtajfjkfnmmfhmaaGreatDoorQcaj
import Derived.StillTailTactics
import Derived.BigRegion
import Derived.Test.YtajfjkfnmmfhmaaGreatDoorRows
import Derived.ProofKit
import Derived.OpenShut
import Derived.ChangeOld
import Derived.Deep.Slices
import Derived.SizedLaws
import Derived.Deep.Cut
import Derived.Deep.DeepCutAuto
import Derived.Deep.CutBlock
import Derived.WalkKit
import Derived.WalkSpells
import Derived.WalkLawsBesides
import Derived.Handy
import Derived.Deep.OwnRows
import Derived.Laws.BytesArg
import Derived.Laws.CopyOwn
import Derived.Lib.AppendStr
import Derived.Lib.AppendZerosOnto
import Derived.Lib.Overlaps
import Derived.Laws.OwnMore
import Derived.Deep.QuietTactic
import Derived.BigQuiet
import Derived.Deep.RegionHeld3
import Derived.Laws.BitsAllLaws
import Derived.Laws.MakeOwn
import Derived.MapKept
import Derived.Maps.Own
import Derived.Maps.OwnOps
import Derived.DeepKeys
import Derived.Lib.Bytes
import Derived.Laws.EntriesVeiled
import Derived.Lib.Bytealg
import Derived.OrdersHeld
import Derived.StillTail
namespace Go.Proofs.YtajfjkfnmmfhmaaGreatDoor
set_option maxRecDepth 100000
set_option maxHeartbeats 25600000
section
open Go.RowKit Go.Lib
theorem le_leVr (zs : List Int) (h : ∀ z ∈ zs, 0 ≤ z ∧ z < 256) : le (leV zs) zs.length = zs := by
 induction zs with
 | nil => rfl
 | cons z zs ih =>
  have hz := h z (by simp)
  have ih := ih (fun y hy => h y (by simp [hy]))
  have hb := leV_bd zs (fun y hy => h y (by simp [hy]))
  rw [leV, List.length_cons, le, List.range_succ_eq_map, List.map_cons, List.map_map]
  congr 1
  ·simp; omega
  ·conv => rhs; rw [← ih]
   unfold le
   apply List.map_congr_left
   intro i _
   have e : (2 : Int) ^ (8 * (i + 1)) = 256 * 2 ^ (8 * i) := by rw [Nat.mul_add, Int.pow_add, Int.mul_comm]; rfl
   simp only [Function.comp, Nat.succ_eq_add_one]
   rw [e, ← Int.ediv_ediv_of_nonneg (by decide)]
   congr 2
   omega
theorem tx_strR (zs : List Int) (h : ∀ z ∈ zs, 0 ≤ z ∧ z < 256) : tx (strOfNums zs) = zs := by
 unfold tx
 rw [strOfNums_data, List.map_map]
 conv => rhs; rw [← List.map_id zs]
 apply List.map_congr_left
 intro z hz
 have := h z hz
 simp [Function.comp]
 omega
theorem nuS_inv {bs : List Int} (hb : ∀ z ∈ bs, 0 ≤ z ∧ z < 256) {s : Rst} {k : Nat} (h : (nuS bs s (k : Int)).2.2 = 0) : s.2 = 0 ∧ bs.drop s.1 = le (nuS bs s (k : Int)).1 k ++ bs.drop (nuS bs s (k : Int)).2.1 ∧ 0 ≤ (nuS bs s (k : Int)).1 ∧ (nuS bs s (k : Int)).1 < 2 ^ (8 * k) := by
 by_cases he : s.2 = 0
 case neg =>
  unfold nuS at h
  rw [readS_err _ _ _ _ he] at h
  exact absurd h he
 refine ⟨he, ?_⟩
 unfold nuS at h ⊢
 rw [he, readS_ok] at h ⊢
 by_cases hk : (k : Int) < 1 ∨ 8 < (k : Int)
 ·have e : numT (bs.drop s.1) k = (0, 0, 1) := by unfold numT; rw [if_pos hk]
  rw [e] at h; simp at h
 by_cases h2 : ((bs.drop s.1).length : Int) < k
 ·have e : numT (bs.drop s.1) k = (0, 0, 10) := by unfold numT; rw [if_neg hk, if_pos h2]
  rw [e] at h; simp at h
 have e : numT (bs.drop s.1) k = (leV ((bs.drop s.1).take k), k, 0) := by unfold numT; rw [if_neg hk, if_neg h2, Int.toNat_natCast]
 rw [e]
 simp only [if_true]
 have hz : ∀ z ∈ (bs.drop s.1).take k, 0 ≤ z ∧ z < 256 := fun z hz => hb z (List.mem_of_mem_drop (List.mem_of_mem_take hz))
 have hl : ((bs.drop s.1).take k).length = k := by rw [List.length_take]; omega
 have h3 := le_leVr _ hz
 have h4 := leV_bd _ hz
 rw [hl] at h3 h4
 refine ⟨?_, h4⟩
 rw [h3, ← List.drop_drop, List.take_append_drop]
theorem txS_inv {bs : List Int} (hb : ∀ z ∈ bs, 0 ≤ z ∧ z < 256) {s : Rst} {m : Int} (h : (txS bs s m).2.2 = 0) : s.2 = 0 ∧ bs.drop s.1 = txF (strOfNums (txS bs s m).1) ++ bs.drop (txS bs s m).2.1 := by
 by_cases he : s.2 = 0
 case neg =>
  unfold txS at h
  rw [readS_err _ _ _ _ he] at h
  exact absurd h he
 refine ⟨he, ?_⟩
 unfold txS at h ⊢
 rw [he, readS_ok] at h ⊢
 obtain ⟨ls, hls⟩ := eX (bs.drop s.1)
 have hlb : ∀ z ∈ ls, 0 ≤ z ∧ z < 256 := fun z hz => hb z (List.mem_of_mem_drop (by rw [hls]; exact hz))
 by_cases h1 : ls.length < 2
 ·have e : textT (bs.drop s.1) m = ([], 0, 10) := by rw [hls]; unfold textT; rw [if_pos h1]
  rw [e] at h; simp at h
 by_cases h2 : m < leV (ls.take 2)
 ·have e : textT (bs.drop s.1) m = ([], 0, 11) := by rw [hls]; unfold textT; rw [if_neg h1, if_pos h2]
  rw [e] at h; simp at h
 by_cases h3 : ls.length < 2 + (leV (ls.take 2)).toNat
 ·have e : textT (bs.drop s.1) m = ([], 0, 10) := by rw [hls]; unfold textT; rw [if_neg h1, if_neg h2, if_pos h3]
  rw [e] at h; simp at h
 have e : textT (bs.drop s.1) m = ((ls.drop 2).take (leV (ls.take 2)).toNat, 2 + (leV (ls.take 2)).toNat, 0) := by rw [hls]; unfold textT; rw [if_neg h1, if_neg h2, if_neg h3]
 rw [e]
 simp only [if_true]
 have hlen2 : (ls.take 2).length = 2 := by simp; omega
 have hbd := leV_bd (ls.take 2) (fun z hz => hlb z (List.mem_of_mem_take hz))
 have hle := le_leVr (ls.take 2) (fun z hz => hlb z (List.mem_of_mem_take hz))
 rw [hlen2] at hbd hle
 obtain ⟨n, hn⟩ := Int.eq_ofNat_of_zero_le hbd.1
 rw [hn] at hle h3 ⊢
 rw [Int.toNat_natCast] at h3 ⊢
 have hlt2 : ((ls.drop 2).take n).length = n := by simp; omega
 have hsz : (strOfNums ((ls.drop 2).take n)).size = n := by rw [strOfNums_size, hlt2]
 unfold txF
 rw [hsz, hle, tx_strR _ (fun z hz => hlb z (List.mem_of_mem_drop (List.mem_of_mem_take hz))), ← List.take_add, ← List.drop_drop, hls, List.take_append_drop]
theorem kpS_inv {bs : List Int} (hb : ∀ z ∈ bs, 0 ≤ z ∧ z < 256) {more : Int} {k : Nat} {s : Rst} : ∀ t, (kpS bs more (k : Int) s t).2.2 = 0 → s.2 = 0 ∧ ∀ K : List Int, (∀ j, j < t → zA K j = zA (kpS bs more (k : Int) s t).1 j) → bs.drop s.1 = kpT K more k t ++ bs.drop (kpS bs more (k : Int) s t).2.1
 | 0, h => ⟨h, fun K _ => by simp [kpT, kpS]⟩
 | t + 1, h => by
  have hl := kpS_len bs more (k : Int) s t
  have h1 : (nuS bs (kpS bs more (k : Int) s t).2 (k : Int)).2.2 = 0 := h
  obtain ⟨h2, h3, _, _⟩ := nuS_inv hb h1
  obtain ⟨h5, h6⟩ := kpS_inv hb t h2
  refine ⟨h5, fun K hK => ?_⟩
  have e : (kpS bs more (k : Int) s (t + 1)).1 = (kpS bs more (k : Int) s t).1 ++ [(nuS bs (kpS bs more (k : Int) s t).2 k).1 - more] := rfl
  have h7 := h6 K (fun j hj => by
   rw [hK j (by omega), e]
   unfold zA
   rw [List.getD_eq_getElem?_getD, List.getD_eq_getElem?_getD, List.getElem?_append_left (by omega)])
  have h8 : zA K t + more = (nuS bs (kpS bs more (k : Int) s t).2 k).1 := by
   rw [hK t (by omega), e]
   unfold zA
   rw [List.getD_eq_getElem?_getD, List.getElem?_append_right (by omega), hl, Nat.sub_self]
   simp
  rw [h7, h3, kpT, h8, List.append_assoc]
  rfl
theorem kpS_pos {bs : List Int} (hb : ∀ z ∈ bs, 0 ≤ z ∧ z < 256) {more : Int} {k : Nat} {s : Rst} : ∀ t, (kpS bs more (k : Int) s t).2.2 = 0 → k * t ≤ bs.length - s.1
 | 0, _ => by simp
 | t + 1, h => by
  have h0 := (kpS_inv hb (t + 1) h).2 (kpS bs more (k : Int) s (t + 1)).1 (fun _ _ => rfl)
  have h1 := congrArg List.length h0
  rw [List.length_drop, List.length_append, kpT_len] at h1
  omega
theorem prS_inv {bs : List Int} (hb : ∀ z ∈ bs, 0 ≤ z ∧ z < 256) {s : Rst} : ∀ t, (prS bs s t).2.2 = 0 → s.2 = 0 ∧ ∀ P : List Pr, (∀ j, j < t → prA P j = prA (prS bs s t).1 j) → bs.drop s.1 = prT P t ++ bs.drop (prS bs s t).2.1
 | 0, h => ⟨h, fun P _ => by simp [prT, prS]⟩
 | t + 1, h => by
  have hl := prS_len bs s t
  have h1 : (txS bs (txS bs (prS bs s t).2 240).2 240).2.2 = 0 := h
  obtain ⟨h2, h3⟩ := txS_inv hb h1
  obtain ⟨h4, h5⟩ := txS_inv hb h2
  obtain ⟨h6, h7⟩ := prS_inv hb t h4
  refine ⟨h6, fun P hP => ?_⟩
  have e : (prS bs s (t + 1)).1 = (prS bs s t).1 ++ [(strOfNums (txS bs (prS bs s t).2 240).1, strOfNums (txS bs (txS bs (prS bs s t).2 240).2 240).1)] := rfl
  have h8 := h7 P (fun j hj => by
   rw [hP j (by omega), e]
   unfold prA
   rw [List.getD_eq_getElem?_getD, List.getD_eq_getElem?_getD, List.getElem?_append_left (by omega)])
  have h9 : prA P t = (strOfNums (txS bs (prS bs s t).2 240).1, strOfNums (txS bs (txS bs (prS bs s t).2 240).2 240).1) := by
   rw [hP t (by omega), e]
   unfold prA
   rw [List.getD_eq_getElem?_getD, List.getElem?_append_right (by omega), hl, Nat.sub_self]
   rfl
  rw [h8, h5, h3, prT, h9, List.append_assoc, List.append_assoc]
  rfl
theorem done_inv {n p : Nat} {e : Int} (h : doneS n p e = 0) : e = 0 ∧ n ≤ p := by
 unfold doneS at h
 split at h
 ·omega
 ·rename_i h1
  refine ⟨h, ?_⟩
  by_cases h2 : p < n
  ·exact absurd ⟨h, h2⟩ h1
  ·omega
theorem sp_inv {bs : List Int} (hb : ∀ z ∈ bs, 0 ≤ z ∧ z < 256) (h5 : 5 ≤ bs.length) : bs.take 5 = le (spK bs) 1 ++ le (spM bs) 4 := by
 have hl : (bs.take 5).length = 5 := by rw [List.length_take]; omega
 have hb5 : ∀ z ∈ bs.take 5, 0 ≤ z ∧ z < 256 := fun z hz => hb z (List.mem_of_mem_take hz)
 have n1 : nuS (bs.take 5) (0, 0) 1 = (leV ((bs.take 5).take 1), 1, 0) := by
  unfold nuS
  rw [readS_ok]
  unfold numT
  rw [if_neg (by omega), if_neg (by rw [List.drop_zero, hl]; omega)]
  rfl
 have n2 : nuS (bs.take 5) (1, 0) 4 = (leV (((bs.take 5).drop 1).take 4), 5, 0) := by
  unfold nuS
  rw [readS_ok]
  unfold numT
  rw [if_neg (by omega), if_neg (by rw [List.length_drop, hl]; omega)]
  rfl
 have e1 : spK bs = leV ((bs.take 5).take 1) := by unfold spK; rw [n1]
 have e2 : spM bs = leV (((bs.take 5).drop 1).take 4) := by unfold spM; rw [n1]; simp only; rw [n2]
 have l1 : ((bs.take 5).take 1).length = 1 := by rw [List.length_take, hl]; rfl
 have l2 : (((bs.take 5).drop 1).take 4).length = 4 := by rw [List.length_take, List.length_drop, hl]; rfl
 have q1 := le_leVr ((bs.take 5).take 1) (fun z hz => hb5 z (List.mem_of_mem_take hz))
 have q2 := le_leVr (((bs.take 5).drop 1).take 4) (fun z hz => hb5 z (List.mem_of_mem_drop (List.mem_of_mem_take hz)))
 rw [l1] at q1
 rw [l2] at q2
 rw [e1, e2, q1, q2, List.take_of_length_le (l := (bs.take 5).drop 1) (by rw [List.length_drop, hl]; omega), List.take_append_drop]
theorem sel_inv {b : List Int} (hb : ∀ z ∈ b, 0 ≤ z ∧ z < 256) (hl : b.length = 32) : selL (⟨(u1 b).1, (u2 b).1, (u3 b).1, (u4 b).1⟩ : S4) = b := by
 have n : ∀ p, p + 8 ≤ 32 → nuS b (p, 0) 8 = (leV ((b.drop p).take 8), p + 8, 0) := fun p hp => by
  unfold nuS
  rw [readS_ok]
  unfold numT
  rw [if_neg (by omega), if_neg (by rw [List.length_drop, hl]; omega)]
  rfl
 have q : ∀ p, p + 8 ≤ 32 → le (leV ((b.drop p).take 8)) 8 = (b.drop p).take 8 := fun p hp => by
  have h := le_leVr ((b.drop p).take 8) (fun z hz => hb z (List.mem_of_mem_drop (List.mem_of_mem_take hz)))
  have l : ((b.drop p).take 8).length = 8 := by rw [List.length_take, List.length_drop, hl]; omega
  rwa [l] at h
 have e1 : u1 b = (leV ((b.drop 0).take 8), 8, 0) := n 0 (by omega)
 have e2 : u2 b = (leV ((b.drop 8).take 8), 16, 0) := by unfold u2; rw [e1]; exact n 8 (by omega)
 have e3 : u3 b = (leV ((b.drop 16).take 8), 24, 0) := by unfold u3; rw [e2]; exact n 16 (by omega)
 have e4 : u4 b = (leV ((b.drop 24).take 8), 32, 0) := by unfold u4; rw [e3]; exact n 24 (by omega)
 rw [e1, e2, e3, e4]
 unfold selL sumL
 simp only
 rw [q 0 (by omega), q 8 (by omega), q 16 (by omega), q 24 (by omega), List.drop_zero]
 have t : ∀ p, (b.drop p).take 8 ++ b.drop (p + 8) = b.drop p := fun p => by rw [← List.drop_drop, List.take_append_drop]
 rw [List.take_of_length_le (l := b.drop 24) (by rw [List.length_drop, hl]; omega), List.append_assoc, List.append_assoc, t 16, t 8]
 exact t 0
end
section
open Go.RowKit Go.Lib
def rkSame (x y : Rk) : Prop := x.r.core = y.r.core ∧ x.P = y.P ∧ x.K = y.K ∧ x.D = y.D
theorem RdRk.at {w : World} {p : Option Addr} {L : List Rk} (h : RdRk w p L) {t : Nat} (ht : t < L.length) : ∃ g o, p = some ⟨g, o, none⟩ ∧ ((∀ j u, (rkA L t).r.arr[j]? = some u → w.cell? ⟨g, o + t * 13 + j, none⟩ = some u) ∧ RcOk w (rkA L t).r (rkA L t).P (rkA L t).K (rkA L t).D ∧ (rkA L t).r.name.size ≤ 140737488355328) := by
 have hget := rkA_get ht
 rcases h with h | ⟨g, o, he, hc⟩
 ·rw [h] at hget; simp at hget
 ·exact ⟨g, o, he, hc t _ hget⟩
theorem sameAll_any (p q : Option Addr) (n c d : Nat) (L M : List Rk) (w : World) (hl : L.length = n) (hm : M.length = n) (hn9 : n ≤ 9223372036854775807) (hp : RdRk w p L) (hq : RdRk w q M) (hs : ∀ j, j < n → rkSame (rkA L j) (rkA M j)) :
  Calls Tryz.prog 21 #[.slice p n c, .slice q n d] w fun e w' => e = .returned (.bool true) ∧ Frm [] w w' := by
 have HP := hid hp
 have HQ := hid hq
 have HL := hid hl
 have HM := hid hm
 have HS := hid hs
 clear hp hq hl hm hs
 have hb : ((n : Int) != (n : Int)) = false := by simp
 go_enter Tryz.func21, Tryz.ntmps21
 go_wp2_with fail
 clear hb
 go_loopw [5] (fun i wr => ∃ t : Nat, t ≤ n ∧ i = .int .i64 (t : Int) ∧ Hid (Frm [] w wr)) (fun i _ => n - (intOf i).toNat)
 case atStart => exact ⟨0, Nat.zero_le _, rfl, hid (Frm.refl _ _)⟩
 case round =>
  obtain ⟨t, ht, rfl, hf⟩ := hrel
  have HF := hid hf.out
  clear hf
  by_cases hlt : t < n
  case neg =>
   obtain rfl : t = n := by omega
   clear hlt
   go_wp2_with fail
   try go_returns
   exact ⟨rfl, HF.out⟩
  have t1 : (t : Int) < (n : Int) := by omega
  obtain ⟨g1, o1, rfl, hc1, hk1, _⟩ := (HP.out.k0 HF.out).at (t := t) (by rw [HL.out]; exact hlt)
  obtain ⟨g2, o2, rfl, hc2, hk2, _⟩ := (HQ.out.k0 HF.out).at (t := t) (by rw [HM.out]; exact hlt)
  obtain ⟨e1, e2, e3, e4⟩ := HS.out t hlt
  rw [← e2, ← e3, ← e4] at hk2
  have HSM := hid (fun W (hf : Frm [] wr W) => sameTrue_any (rkA L t).r (rkA M t).r (rkA L t).P (rkA L t).K (rkA L t).D W (hk1.k0 hf) (hk2.k0 hf) e1)
  obtain ⟨R1, hR1⟩ := eX ((rkA L t).r)
  obtain ⟨R2, hR2⟩ := eX ((rkA M t).r)
  rw [hR1] at hc1 HSM
  rw [hR2] at hc2 HSM
  have z0 : wr.cell? ⟨g1, o1 + t * 13, none⟩ = some (.int .i64 R1.kind) := hc1 0 _ rfl
  have z1 : wr.cell? ⟨g1, o1 + t * 13 + 1, none⟩ = some (.string R1.name) := hc1 1 _ rfl
  have z2 : wr.cell? ⟨g1, o1 + t * 13 + 2, none⟩ = some (.int .i64 R1.typ) := hc1 2 _ rfl
  have z3 : wr.cell? ⟨g1, o1 + t * 13 + 3, none⟩ = some (.int .i64 R1.frm) := hc1 3 _ rfl
  have z4 : wr.cell? ⟨g1, o1 + t * 13 + 4, none⟩ = some (.int .i64 R1.guid) := hc1 4 _ rfl
  have z5 : wr.cell? ⟨g1, o1 + t * 13 + 5, none⟩ = some (.int .i64 R1.origin) := hc1 5 _ rfl
  have z6 : wr.cell? ⟨g1, o1 + t * 13 + 6, none⟩ = some (.string R1.snap) := hc1 6 _ rfl
  have z7 : wr.cell? ⟨g1, o1 + t * 13 + 7, none⟩ = some (.slice R1.pp R1.pn R1.pc) := hc1 7 _ rfl
  have z8 : wr.cell? ⟨g1, o1 + t * 13 + 8, none⟩ = some (.int .i64 R1.obj) := hc1 8 _ rfl
  have z9 : wr.cell? ⟨g1, o1 + t * 13 + 9, none⟩ = some (.int .i64 R1.at_) := hc1 9 _ rfl
  have z10 : wr.cell? ⟨g1, o1 + t * 13 + 10, none⟩ = some (.int .i64 R1.many) := hc1 10 _ rfl
  have z11 : wr.cell? ⟨g1, o1 + t * 13 + 11, none⟩ = some (.slice R1.kp R1.kn R1.kc) := hc1 11 _ rfl
  have z12 : wr.cell? ⟨g1, o1 + t * 13 + 12, none⟩ = some (.slice R1.dp R1.dl R1.dc) := hc1 12 _ rfl
  have y0 : wr.cell? ⟨g2, o2 + t * 13, none⟩ = some (.int .i64 R2.kind) := hc2 0 _ rfl
  have y1 : wr.cell? ⟨g2, o2 + t * 13 + 1, none⟩ = some (.string R2.name) := hc2 1 _ rfl
  have y2 : wr.cell? ⟨g2, o2 + t * 13 + 2, none⟩ = some (.int .i64 R2.typ) := hc2 2 _ rfl
  have y3 : wr.cell? ⟨g2, o2 + t * 13 + 3, none⟩ = some (.int .i64 R2.frm) := hc2 3 _ rfl
  have y4 : wr.cell? ⟨g2, o2 + t * 13 + 4, none⟩ = some (.int .i64 R2.guid) := hc2 4 _ rfl
  have y5 : wr.cell? ⟨g2, o2 + t * 13 + 5, none⟩ = some (.int .i64 R2.origin) := hc2 5 _ rfl
  have y6 : wr.cell? ⟨g2, o2 + t * 13 + 6, none⟩ = some (.string R2.snap) := hc2 6 _ rfl
  have y7 : wr.cell? ⟨g2, o2 + t * 13 + 7, none⟩ = some (.slice R2.pp R2.pn R2.pc) := hc2 7 _ rfl
  have y8 : wr.cell? ⟨g2, o2 + t * 13 + 8, none⟩ = some (.int .i64 R2.obj) := hc2 8 _ rfl
  have y9 : wr.cell? ⟨g2, o2 + t * 13 + 9, none⟩ = some (.int .i64 R2.at_) := hc2 9 _ rfl
  have y10 : wr.cell? ⟨g2, o2 + t * 13 + 10, none⟩ = some (.int .i64 R2.many) := hc2 10 _ rfl
  have y11 : wr.cell? ⟨g2, o2 + t * 13 + 11, none⟩ = some (.slice R2.kp R2.kn R2.kc) := hc2 11 _ rfl
  have y12 : wr.cell? ⟨g2, o2 + t * 13 + 12, none⟩ = some (.slice R2.dp R2.dl R2.dc) := hc2 12 _ rfl
  clear hc1 hc2 hk1 hk2 e1 e2 e3 e4 hR1 hR2
  obtain ⟨a0, a1, a2, a3, a4, a5, a6, a7, a8, a9, a10, a11, a12, a13, a14, a15, a16, a17, a18⟩ := R1
  obtain ⟨b0, b1, b2, b3, b4, b5, b6, b7, b8, b9, b10, b11, b12, b13, b14, b15, b16, b17, b18⟩ := R2
  unfold Rc.arr at HSM
  simp only at HSM z0 z1 z2 z3 z4 z5 z6 z7 z8 z9 z10 z11 z12 y0 y1 y2 y3 y4 y5 y6 y7 y8 y9 y10 y11 y12
  go_upto_region 6 with fail
  have HFD : Hid (Frm [] wr wr.drew) := hid ((Frm.refl [] wr).drew)
  have hs0 : wr.drew.cell? ⟨g1, o1 + t * 13, none⟩ = some (.int .i64 a0) ∧ wr.drew.cell? ⟨g1, o1 + t * 13 + 1, none⟩ = some (.string a1) ∧ wr.drew.cell? ⟨g1, o1 + t * 13 + 2, none⟩ = some (.int .i64 a2) ∧ wr.drew.cell? ⟨g1, o1 + t * 13 + 3, none⟩ = some (.int .i64 a3) ∧ wr.drew.cell? ⟨g1, o1 + t * 13 + 4, none⟩ = some (.int .i64 a4) ∧ wr.drew.cell? ⟨g1, o1 + t * 13 + 5, none⟩ = some (.int .i64 a5) ∧ wr.drew.cell? ⟨g1, o1 + t * 13 + 6, none⟩ = some (.string a6) ∧ wr.drew.cell? ⟨g1, o1 + t * 13 + 7, none⟩ = some (.slice a7 a8 a9) ∧ wr.drew.cell? ⟨g1, o1 + t * 13 + 8, none⟩ = some (.int .i64 a10) ∧ wr.drew.cell? ⟨g1, o1 + t * 13 + 9, none⟩ = some (.int .i64 a11) ∧ wr.drew.cell? ⟨g1, o1 + t * 13 + 10, none⟩ = some (.int .i64 a12) ∧ wr.drew.cell? ⟨g1, o1 + t * 13 + 11, none⟩ = some (.slice a13 a14 a15) ∧ wr.drew.cell? ⟨g1, o1 + t * 13 + 12, none⟩ = some (.slice a16 a17 a18) ∧ wr.drew.cell? ⟨g2, o2 + t * 13, none⟩ = some (.int .i64 b0) ∧ wr.drew.cell? ⟨g2, o2 + t * 13 + 1, none⟩ = some (.string b1) ∧ wr.drew.cell? ⟨g2, o2 + t * 13 + 2, none⟩ = some (.int .i64 b2) ∧ wr.drew.cell? ⟨g2, o2 + t * 13 + 3, none⟩ = some (.int .i64 b3) ∧ wr.drew.cell? ⟨g2, o2 + t * 13 + 4, none⟩ = some (.int .i64 b4) ∧ wr.drew.cell? ⟨g2, o2 + t * 13 + 5, none⟩ = some (.int .i64 b5) ∧ wr.drew.cell? ⟨g2, o2 + t * 13 + 6, none⟩ = some (.string b6) ∧ wr.drew.cell? ⟨g2, o2 + t * 13 + 7, none⟩ = some (.slice b7 b8 b9) ∧ wr.drew.cell? ⟨g2, o2 + t * 13 + 8, none⟩ = some (.int .i64 b10) ∧ wr.drew.cell? ⟨g2, o2 + t * 13 + 9, none⟩ = some (.int .i64 b11) ∧ wr.drew.cell? ⟨g2, o2 + t * 13 + 10, none⟩ = some (.int .i64 b12) ∧ wr.drew.cell? ⟨g2, o2 + t * 13 + 11, none⟩ = some (.slice b13 b14 b15) ∧ wr.drew.cell? ⟨g2, o2 + t * 13 + 12, none⟩ = some (.slice b16 b17 b18) := ⟨z0, z1, z2, z3, z4, z5, z6, z7, z8, z9, z10, z11, z12, y0, y1, y2, y3, y4, y5, y6, y7, y8, y9, y10, y11, y12⟩
  refine wp_region_tail (S := fun W => (W.cell? ⟨g1, o1 + t * 13, none⟩ = some (.int .i64 a0) ∧ W.cell? ⟨g1, o1 + t * 13 + 1, none⟩ = some (.string a1) ∧ W.cell? ⟨g1, o1 + t * 13 + 2, none⟩ = some (.int .i64 a2) ∧ W.cell? ⟨g1, o1 + t * 13 + 3, none⟩ = some (.int .i64 a3) ∧ W.cell? ⟨g1, o1 + t * 13 + 4, none⟩ = some (.int .i64 a4) ∧ W.cell? ⟨g1, o1 + t * 13 + 5, none⟩ = some (.int .i64 a5) ∧ W.cell? ⟨g1, o1 + t * 13 + 6, none⟩ = some (.string a6) ∧ W.cell? ⟨g1, o1 + t * 13 + 7, none⟩ = some (.slice a7 a8 a9) ∧ W.cell? ⟨g1, o1 + t * 13 + 8, none⟩ = some (.int .i64 a10) ∧ W.cell? ⟨g1, o1 + t * 13 + 9, none⟩ = some (.int .i64 a11) ∧ W.cell? ⟨g1, o1 + t * 13 + 10, none⟩ = some (.int .i64 a12) ∧ W.cell? ⟨g1, o1 + t * 13 + 11, none⟩ = some (.slice a13 a14 a15) ∧ W.cell? ⟨g1, o1 + t * 13 + 12, none⟩ = some (.slice a16 a17 a18) ∧ W.cell? ⟨g2, o2 + t * 13, none⟩ = some (.int .i64 b0) ∧ W.cell? ⟨g2, o2 + t * 13 + 1, none⟩ = some (.string b1) ∧ W.cell? ⟨g2, o2 + t * 13 + 2, none⟩ = some (.int .i64 b2) ∧ W.cell? ⟨g2, o2 + t * 13 + 3, none⟩ = some (.int .i64 b3) ∧ W.cell? ⟨g2, o2 + t * 13 + 4, none⟩ = some (.int .i64 b4) ∧ W.cell? ⟨g2, o2 + t * 13 + 5, none⟩ = some (.int .i64 b5) ∧ W.cell? ⟨g2, o2 + t * 13 + 6, none⟩ = some (.string b6) ∧ W.cell? ⟨g2, o2 + t * 13 + 7, none⟩ = some (.slice b7 b8 b9) ∧ W.cell? ⟨g2, o2 + t * 13 + 8, none⟩ = some (.int .i64 b10) ∧ W.cell? ⟨g2, o2 + t * 13 + 9, none⟩ = some (.int .i64 b11) ∧ W.cell? ⟨g2, o2 + t * 13 + 10, none⟩ = some (.int .i64 b12) ∧ W.cell? ⟨g2, o2 + t * 13 + 11, none⟩ = some (.slice b13 b14 b15) ∧ W.cell? ⟨g2, o2 + t * 13 + 12, none⟩ = some (.slice b16 b17 b18))) 9 10 rfl (by kernel_rfl) (by kernel_rfl) ?_
  refine hI (i := 0) (v := ?_) rfl ?_ hs0 ?_
  rotate_left 1
  ·rintro W ⟨s0, s1, s2, s3, s4, s5, s6, s7, s8, s9, s10, s11, s12, r0, r1, r2, r3, r4, r5, r6, r7, r8, r9, r10, r11, r12⟩; (try simp only [lA, lZ]); go_simp; try with_reducible rfl
  try simp only [lA, lZ, Act.put, lI, lW, lX]
  refine hI (i := 1) (v := ?_) rfl ?_ hs0 ?_
  rotate_left 1
  ·rintro W ⟨s0, s1, s2, s3, s4, s5, s6, s7, s8, s9, s10, s11, s12, r0, r1, r2, r3, r4, r5, r6, r7, r8, r9, r10, r11, r12⟩; (try simp only [lA, lS, lZ]); go_simp; try with_reducible rfl
  try simp only [lA, lS, lZ, Act.put, lI, lW, lX]
  refine hI (i := 2) (v := ?_) rfl ?_ hs0 ?_
  rotate_left 1
  ·rintro W ⟨s0, s1, s2, s3, s4, s5, s6, s7, s8, s9, s10, s11, s12, r0, r1, r2, r3, r4, r5, r6, r7, r8, r9, r10, r11, r12⟩; (try simp only [lA, lS, lZ]); go_simp; try with_reducible rfl
  try simp only [lA, lS, lZ, Act.put, lI, lW, lX]
  refine hI (i := 3) (v := ?_) rfl ?_ hs0 ?_
  rotate_left 1
  ·rintro W ⟨s0, s1, s2, s3, s4, s5, s6, s7, s8, s9, s10, s11, s12, r0, r1, r2, r3, r4, r5, r6, r7, r8, r9, r10, r11, r12⟩; (try simp only [lA, lS, lZ]); go_simp; try with_reducible rfl
  try simp only [lA, lS, lZ, Act.put, lI, lW, lX]
  refine hI (i := 4) (v := ?_) rfl ?_ hs0 ?_
  rotate_left 1
  ·rintro W ⟨s0, s1, s2, s3, s4, s5, s6, s7, s8, s9, s10, s11, s12, r0, r1, r2, r3, r4, r5, r6, r7, r8, r9, r10, r11, r12⟩; (try simp only [lA, lS, lZ]); go_simp; try with_reducible rfl
  try simp only [lA, lS, lZ, Act.put, lI, lW, lX]
  refine hI (i := 5) (v := ?_) rfl ?_ hs0 ?_
  rotate_left 1
  ·rintro W ⟨s0, s1, s2, s3, s4, s5, s6, s7, s8, s9, s10, s11, s12, r0, r1, r2, r3, r4, r5, r6, r7, r8, r9, r10, r11, r12⟩; (try simp only [lA, lS, lZ]); go_simp; try with_reducible rfl
  try simp only [lA, lS, lZ, Act.put, lI, lW, lX]
  refine hI (i := 6) (v := ?_) rfl ?_ hs0 ?_
  rotate_left 1
  ·rintro W ⟨s0, s1, s2, s3, s4, s5, s6, s7, s8, s9, s10, s11, s12, r0, r1, r2, r3, r4, r5, r6, r7, r8, r9, r10, r11, r12⟩; (try simp only [lA, lS, lZ]); go_simp; try with_reducible rfl
  try simp only [lA, lS, lZ, Act.put, lI, lW, lX]
  refine hI (i := 7) (v := ?_) rfl ?_ hs0 ?_
  rotate_left 1
  ·rintro W ⟨s0, s1, s2, s3, s4, s5, s6, s7, s8, s9, s10, s11, s12, r0, r1, r2, r3, r4, r5, r6, r7, r8, r9, r10, r11, r12⟩; (try simp only [lA, lS, lZ]); go_simp; try with_reducible rfl
  try simp only [lA, lS, lZ, Act.put, lI, lW, lX]
  refine wpAnyHT_one (i := 8) rfl (by kernel_rfl) (by kernel_rfl) (fun K hK => ?_)
  try simp only [lA, lS, lZ]
  go_simp
  refine (HSM.out _ HFD.out).mono ?_
  rintro e w5 ⟨rfl, hf5⟩
  have hs5 : w5.cell? ⟨g1, o1 + t * 13, none⟩ = some (.int .i64 a0) ∧ w5.cell? ⟨g1, o1 + t * 13 + 1, none⟩ = some (.string a1) ∧ w5.cell? ⟨g1, o1 + t * 13 + 2, none⟩ = some (.int .i64 a2) ∧ w5.cell? ⟨g1, o1 + t * 13 + 3, none⟩ = some (.int .i64 a3) ∧ w5.cell? ⟨g1, o1 + t * 13 + 4, none⟩ = some (.int .i64 a4) ∧ w5.cell? ⟨g1, o1 + t * 13 + 5, none⟩ = some (.int .i64 a5) ∧ w5.cell? ⟨g1, o1 + t * 13 + 6, none⟩ = some (.string a6) ∧ w5.cell? ⟨g1, o1 + t * 13 + 7, none⟩ = some (.slice a7 a8 a9) ∧ w5.cell? ⟨g1, o1 + t * 13 + 8, none⟩ = some (.int .i64 a10) ∧ w5.cell? ⟨g1, o1 + t * 13 + 9, none⟩ = some (.int .i64 a11) ∧ w5.cell? ⟨g1, o1 + t * 13 + 10, none⟩ = some (.int .i64 a12) ∧ w5.cell? ⟨g1, o1 + t * 13 + 11, none⟩ = some (.slice a13 a14 a15) ∧ w5.cell? ⟨g1, o1 + t * 13 + 12, none⟩ = some (.slice a16 a17 a18) ∧ w5.cell? ⟨g2, o2 + t * 13, none⟩ = some (.int .i64 b0) ∧ w5.cell? ⟨g2, o2 + t * 13 + 1, none⟩ = some (.string b1) ∧ w5.cell? ⟨g2, o2 + t * 13 + 2, none⟩ = some (.int .i64 b2) ∧ w5.cell? ⟨g2, o2 + t * 13 + 3, none⟩ = some (.int .i64 b3) ∧ w5.cell? ⟨g2, o2 + t * 13 + 4, none⟩ = some (.int .i64 b4) ∧ w5.cell? ⟨g2, o2 + t * 13 + 5, none⟩ = some (.int .i64 b5) ∧ w5.cell? ⟨g2, o2 + t * 13 + 6, none⟩ = some (.string b6) ∧ w5.cell? ⟨g2, o2 + t * 13 + 7, none⟩ = some (.slice b7 b8 b9) ∧ w5.cell? ⟨g2, o2 + t * 13 + 8, none⟩ = some (.int .i64 b10) ∧ w5.cell? ⟨g2, o2 + t * 13 + 9, none⟩ = some (.int .i64 b11) ∧ w5.cell? ⟨g2, o2 + t * 13 + 10, none⟩ = some (.int .i64 b12) ∧ w5.cell? ⟨g2, o2 + t * 13 + 11, none⟩ = some (.slice b13 b14 b15) ∧ w5.cell? ⟨g2, o2 + t * 13 + 12, none⟩ = some (.slice b16 b17 b18) := by
   have k : ∀ a v, wr.drew.cell? a = some v → w5.cell? a = some v := fun a v h => (hf5.cell (World.block_lt_of_cell? _ _ h) (by simp)).trans h
   exact ⟨k _ _ z0, k _ _ z1, k _ _ z2, k _ _ z3, k _ _ z4, k _ _ z5, k _ _ z6, k _ _ z7, k _ _ z8, k _ _ z9, k _ _ z10, k _ _ z11, k _ _ z12, k _ _ y0, k _ _ y1, k _ _ y2, k _ _ y3, k _ _ y4, k _ _ y5, k _ _ y6, k _ _ y7, k _ _ y8, k _ _ y9, k _ _ y10, k _ _ y11, k _ _ y12⟩
  refine hK _ _ hs5 ?_
  clear hK K hs5 hs0
  refine wpAnyHT_end (by kernel_rfl) ?_
  simp only [List.drop_succ_cons, List.drop_zero]
  have HFX : Hid (Frm [] w w5) := hid ((HF.out.trans HFD.out (by simp)).trans hf5 (by simp))
  clear hf5 HSM z0 z1 z2 z3 z4 z5 z6 z7 z8 z9 z10 z11 z12 y0 y1 y2 y3 y4 y5 y6 y7 y8 y9 y10 y11 y12
  go_wp2_with fail
  go_roundw
  case rel => exact ⟨t + 1, by omega, by go_num, HFX⟩
  case measure => simp [intOf] <;> omega
end
section
open Go.RowKit Go.Lib
theorem own_caps {w : World} {E : TypeId} {p : Option Addr} {n c : Nat} {zs : List Int} (h : Own w E (.slice p n c) zs) : n ≤ c := by
 obtain ⟨p', c', he, h9, _⟩ := h.shape
 simp only [Value.slice.injEq] at he
 omega
def rcVal (bs : List Int) (N : Nat) (E : Int) : Prop := (1048576 < bs.length ∧ N = 0 ∧ E = 2) ∨ (bs.length ≤ 1048576 ∧ ∃ t, rsOk bs t ∧ (((rsS bs t).1 ≠ [] ∧ dcE (rsS bs t).2 (rsS bs t).1 ≠ 0 ∧ N = 0 ∧ E = dcE (rsS bs t).2 (rsS bs t).1) ∨ ((rsS bs t).1 = [] ∧ N = t ∧ E = 0)))
def RcsV (w : World) (bs : List Int) (N : Nat) (E : Int) (e : Ending) (w' : World) : Prop := ∃ p c M, e = .returned (.tuple #[.slice p N c, .int .i64 E]) ∧ M.length = N ∧ RdRk w' p M ∧ (∀ j, j < N → rkOf bs j (rkA M j)) ∧ Frm [] w w'
theorem rcs_val {w w' : World} {bs : List Int} {e : Ending} (h : RcsP w bs e w') : ∃ N E, rcVal bs N E ∧ N ≤ 1048576 ∧ RcsV w bs N E e w' := by
 obtain ⟨hf, ⟨h1, rfl⟩ | ⟨h1, t, hok, ⟨h2, h3, rfl⟩ | ⟨h2, p, c, M, rfl, h4, h5, h6, h7⟩⟩⟩ := h
 ·exact ⟨0, 2, Or.inl ⟨h1, rfl, rfl⟩, by omega, none, 0, [], rfl, rfl, Or.inl rfl, fun j hj => by omega, hf⟩
 ·exact ⟨0, _, Or.inr ⟨h1, t, hok, Or.inl ⟨h2, h3, rfl, rfl⟩⟩, by omega, none, 0, [], rfl, rfl, Or.inl rfl, fun j hj => by omega, hf⟩
 ·exact ⟨t, 0, Or.inr ⟨h1, t, hok, Or.inr ⟨h2, rfl, rfl⟩⟩, h5, p, c, M, rfl, h4, h6, h7, hf⟩
theorem rcVal_uniq {bs : List Int} {N N' : Nat} {E E' : Int} (h : rcVal bs N E) (k : rcVal bs N' E') : N' = N ∧ E' = E := by
 rcases h with ⟨h1, rfl, rfl⟩ | ⟨h1, t, hok, ht⟩
 ·rcases k with ⟨_, rfl, rfl⟩ | ⟨k1, _⟩
  ·exact ⟨rfl, rfl⟩
  ·omega
 ·rcases k with ⟨k1, _⟩ | ⟨_, s, kok, ks⟩
  ·omega
  ·have hts : s = t := by
    rcases Nat.lt_trichotomy s t with hl | hl | hl
    ·have h2 := hok s hl
     rcases ks with ⟨_, k2, _⟩ | ⟨k2, _⟩
     ·exact absurd h2.2 k2
     ·exact absurd k2 h2.1
    ·exact hl
    ·have h2 := kok t hl
     rcases ht with ⟨_, k2, _⟩ | ⟨k2, _⟩
     ·exact absurd h2.2 k2
     ·exact absurd k2 h2.1
   subst hts
   rcases ht with ⟨h2, h3, rfl, rfl⟩ | ⟨h2, rfl, rfl⟩
   ·rcases ks with ⟨_, _, rfl, rfl⟩ | ⟨k2, _⟩
    ·exact ⟨rfl, rfl⟩
    ·exact absurd k2 h2
   ·rcases ks with ⟨k2, _⟩ | ⟨_, rfl, rfl⟩
    ·exact absurd h2 k2
    ·exact ⟨rfl, rfl⟩
theorem rkOf_same {bs : List Int} {j : Nat} {x y : Rk} (h : rkOf bs j x) (k : rkOf bs j y) : rkSame x y := ⟨h.1.trans k.1.symm, h.2.1.trans k.2.1.symm, h.2.2.1.trans k.2.2.1.symm, h.2.2.2.trans k.2.2.2.symm⟩
end
section
open Go.RowKit
theorem qvalue_any (p : Option Addr) (c : Nat) (zs : List Int) (hz : ∀ z ∈ zs, 0 ≤ z ∧ z < 256) (hl : zs.length ≤ 8) (w : World) (hrd : Rd w p zs) :
  Calls Tryz.prog 124 #[.slice p zs.length c] w fun e w' => e = .returned (.int .u64 (leV zs)) ∧ Frm [] w w' := by
 have HR : Hid (∀ i, i < zs.length → ∃ g o, p = some ⟨g, o, none⟩ ∧ w.cell? ⟨g, o + i, none⟩ = some (.int .u8 (zs.getD i 0))) := by
  intro i hi
  rcases hrd with h | ⟨g, o, h1, h2⟩
  ·subst h; simp at hi
  ·exact ⟨g, o, h1, h2 i hi⟩
 have HZ := hid hz
 clear hrd hz
 go_enter Tryz.func124, Tryz.ntmps124
 go_wp2_with fail
 go_loopw [3, 4] (fun v i wr => ∃ j : Nat, j ≤ zs.length ∧ i = .int .i64 ((j : Int) - 1) ∧ v = .int .u64 (leV (zs.drop j)) ∧ Hid (Frm [] w wr)) (fun _ i _ => (intOf i + 1).toNat)
 case atStart => exact ⟨zs.length, Nat.le_refl _, rfl, by rw [List.drop_length]; rfl, Frm.refl _ _⟩
 case round =>
  obtain ⟨j, hj, rfl, rfl, hfr⟩ := hrel
  cases j with
  | zero =>
   go_wp2_with fail
   go_returns
   exact ⟨by rw [List.drop_zero]; rfl, hfr.out⟩
  | succ i =>
   have hlt : i < zs.length := by omega
   obtain ⟨g, o, rfl, hc⟩ := HR.out i hlt
   have hx := HZ.out (zs.getD i 0) (by simp [List.getD, hlt])
   have hdr : leV (zs.drop i) = zs.getD i 0 + 256 * leV (zs.drop (i + 1)) := by
    rw [List.drop_eq_getElem_cons hlt, leV]; simp [List.getD, hlt]
   have HDR := hid hdr
   have hB := leV_bd (zs.drop (i + 1)) (fun z hz => HZ.out z (List.mem_of_mem_drop hz))
   have hpw : (2 : Int) ^ (8 * (zs.drop (i + 1)).length) ≤ 2 ^ 56 := by
    have := Nat.pow_le_pow_right (n := 2) (by decide) (show 8 * (zs.drop (i + 1)).length ≤ 56 by simp only [List.length_drop]; omega)
    exact_mod_cast this
   have hbd : leV (zs.drop (i + 1)) < 72057594037927936 := by have := hB.2; omega
   have hb0 := hB.1
   clear hdr hB hpw
   obtain ⟨x, hxx⟩ := eX (zs.getD i 0)
   rw [hxx] at hc hx HDR
   obtain ⟨v, hv⟩ := eX (leV (zs.drop (i + 1)))
   rw [hv] at hbd hb0 HDR ⊢
   clear hxx hv
   have hc' := (hfr.out.cell (p := ⟨g, o + i, none⟩) (World.block_lt_of_cell? w _ hc) (by simp)).trans hc
   have hi1 : ((i + 1 : Nat) : Int) - 1 = (i : Int) := by omega
   rw [hi1]
   clear hi1
   go_wp2_with fail
   go_roundw
   case rel => exact ⟨i, by omega, rfl, by rw [HDR.out, Int.add_comm], hfr⟩
   case measure => simp [intOf]
theorem numT_bytesT (ls : List Int) (k : Int) (h1 : ¬ k < 1) (h2 : ¬ 8 < k) : numT ls k = (leV (bytesT ls k).1, (bytesT ls k).2.1, (bytesT ls k).2.2) := by
 unfold numT bytesT
 rw [if_neg (show ¬ (k < 1 ∨ 8 < k) by omega), if_neg (show ¬ k < 0 by omega)]
 split <;> rfl
theorem bytesT_of (ls : List Int) (k : Int) : ∃ n, (bytesT ls k).1 = ls.take n ∧ ((bytesT ls k).1.length : Int) ≤ max k 0 := by
 unfold bytesT
 split
 ·exact ⟨0, by simp; omega⟩
 ·split
  ·exact ⟨0, by simp; omega⟩
  ·exact ⟨k.toNat, rfl, by simp only [List.length_take]; omega⟩
theorem qnum_any (b c pos : Nat) (p : Option Addr) (bs : List Int) (hb : ∀ z ∈ bs, 0 ≤ z ∧ z < 256) (err k : Int) (w : World) (hw : IsQ w b p c bs pos err) (hk : -9223372036854775808 ≤ k) (hk2 : k ≤ 9223372036854775807) :
  Calls Tryz.prog 105 #[.pointer (some ⟨b, 0, none⟩), .int .i64 k] w fun e w' => e = .returned (.int .u64 (readS 0 pos err (numT (bs.drop pos) k)).1) ∧
   IsQ w' b p c bs (readS 0 pos err (numT (bs.drop pos) k)).2.1 (readS 0 pos err (numT (bs.drop pos) k)).2.2 ∧ Frm [b] w w' := by
 obtain ⟨hlt, hnb, hpos, hlen, c0, c1, c2, f1, f2, _⟩ := hw.cells
 have HW := hid hw
 have HB := hid hb
 clear hw hb
 by_cases he : err = 0
 ·subst he
  have hb0 : ((0 : Int) != 0) = false := rfl
  rw [readS_ok]
  by_cases h1 : k < 1 ∨ 8 < k
  ·have e : numT (bs.drop pos) k = (0, 0, 1) := by unfold numT; rw [if_pos h1]
   rw [e]
   by_cases h2 : k < 1
   ·clear h1
    go_enter Tryz.func105, Tryz.ntmps105
    go_wp2_with fail
    go_returns
    exact ⟨rfl, HW.out.setErr 1, (Frm.refl _ _).setCell _ _ (by simp)⟩
   ·have h3 : 8 < k := by omega
    clear h1
    go_enter Tryz.func105, Tryz.ntmps105
    go_wp2_with fail
    go_returns
    exact ⟨rfl, HW.out.setErr 1, (Frm.refl _ _).setCell _ _ (by simp)⟩
  ·have h2 : ¬ k < 1 := by omega
   have h3 : ¬ 8 < k := by omega
   have HS := hid (qbytes_any b c pos p bs 0 k w HW.out hk hk2)
   rw [readS_ok] at HS
   rw [numT_bytesT _ _ h2 h3]
   obtain ⟨m, hm1, hm2⟩ := bytesT_of (bs.drop pos) k
   have hzz : ∀ z ∈ (bytesT (bs.drop pos) k).1, 0 ≤ z ∧ z < 256 := fun z hz => HB.out z (List.mem_of_mem_drop (List.mem_of_mem_take (by rwa [hm1] at hz)))
   obtain ⟨r, hr⟩ := eX (bytesT (bs.drop pos) k)
   rw [hr] at HS hm2 hzz ⊢
   have HZZ := hid hzz
   clear hr hm1 hzz
   obtain ⟨zs, n, ev⟩ := r
   simp only at HS hm2 HZZ ⊢
   obtain ⟨ps, hps⟩ : ∃ ps, (if ev = 0 then pos + n else pos) = ps := ⟨_, rfl⟩
   rw [hps] at HS ⊢
   clear hps h1
   have hl8 : zs.length ≤ 8 := by omega
   clear hm2
   go_enter Tryz.func105, Tryz.ntmps105
   go_wp2_with fail
   refine HS.out.mono ?_
   rintro e w1 ⟨p1, n1, c1', rfl, hn1, ho, _, hq, hf⟩
   subst hn1
   have HQ := hid hq
   have HO := hid ho
   have HF := hid hf
   clear hq ho hf
   go_wp2_with fail
   refine (qvalue_any p1 c1' zs HZZ.out hl8 w1 HO.out.rd).mono ?_
   rintro e w2 ⟨rfl, hf2⟩
   have HF2 := hid hf2
   clear hf2
   go_wp2_with fail
   go_returns
   exact ⟨rfl, HQ.out.kept HF2.out (by simp) (by simp), HF.out.trans HF2.out (by simp)⟩
 ·rw [readS_err _ _ _ _ he]
  have hb : (err != 0) = true := by simpa using he
  go_enter Tryz.func105, Tryz.ntmps105
  go_wp2_with fail
  go_returns
  exact ⟨rfl, HW.out.kept (Frm.refl [] _) (by simp) (by simp), Frm.refl _ _⟩
end
section
open Go.RowKit
theorem qtext_any (b c pos : Nat) (p : Option Addr) (bs : List Int) (hb : ∀ z ∈ bs, 0 ≤ z ∧ z < 256) (err k : Int) (w : World) (hw : IsQ w b p c bs pos err) (_hk : -9223372036854775808 ≤ k) (_hk2 : k ≤ 9223372036854775807) :
  Calls Tryz.prog 104 #[.pointer (some ⟨b, 0, none⟩), .int .i64 k] w fun e w' => e = .returned (.string (strOfNums (readS [] pos err (textT (bs.drop pos) k)).1)) ∧
   IsQ w' b p c bs (readS [] pos err (textT (bs.drop pos) k)).2.1 (readS [] pos err (textT (bs.drop pos) k)).2.2 ∧ Frm [b] w w' := by
 obtain ⟨hlt, hnb, hpos, hlen, c0, c1, c2, f1, f2, hrd, hcl, hpn, hoff⟩ := hw.cells
 have HW := hid hw
 have HR := hid hrd
 have HPN := hid hpn
 have HOFF := hid hoff
 have HB := hid hb
 clear hw hrd hpn hoff hb
 have hs0 : strOfNums [] = ByteArray.empty := rfl
 by_cases he : err = 0
 ·subst he
  have hb0 : ((0 : Int) != 0) = false := rfl
  rw [readS_ok]
  by_cases h1 : (bs.drop pos).length < 2
  ·rw [show textT (bs.drop pos) k = ([], 0, 10) by unfold textT; rw [if_pos h1]]
   have h1' : (bs.length : Int) - (pos : Int) < 2 := by simp only [List.length_drop] at h1; omega
   have HS := hid hs0
   clear h1 hs0
   go_enter Tryz.func104, Tryz.ntmps104
   go_wp2_with fail
   go_quiet (fail)
   go_wp2_with fail
   go_returns
   exact ⟨congrArg (fun s => Ending.returned (Value.string s)) HS.out.symm, (HW.out.kept ((Frm.refl [] w).drewN nq) (by simp) (by simp)).setErr 10, ((Frm.refl [] w).drewN nq |>.mono (by simp)).setCell _ _ (by simp)⟩
  ·have h1' : ¬ (bs.length : Int) - (pos : Int) < 2 := by simp only [List.length_drop] at h1; omega
   have hp2 : pos + 2 ≤ bs.length := by simp only [List.length_drop] at h1; omega
   obtain ⟨g, rfl⟩ : ∃ g, p = some ⟨g, 0, none⟩ := by
    cases p with
    | none => have := (HPN.out rfl).1; subst this; simp at hp2
    | some a =>
     obtain ⟨g, o, sp⟩ := a
     obtain ⟨ho, hs⟩ := HOFF.out _ rfl
     simp only at ho hs
     subst ho hs
     exact ⟨g, rfl⟩
   have hcp : (c = pos) = False := by simp; omega
   have hw1 : IntKind.i64.wrap ((pos : Int) + 2) = (pos : Int) + 2 := IntWalk.i64_in _ (by omega)
   have b1 : (0 : Int) ≤ (pos : Int) := by omega
   have b2 : (pos : Int) ≤ (pos : Int) + 2 := by omega
   have b3 : (pos : Int) + 2 ≤ (c : Int) := by omega
   have b4 : ((pos : Int) + 2).toNat - pos = 2 := by omega
   have hl2 : ((bs.drop pos).take 2).length = 2 := by simp only [List.length_take, List.length_drop]; omega
   obtain ⟨n, hn, hn2⟩ : ∃ n : Nat, leV ((bs.drop pos).take 2) = n ∧ n < 65536 := by
    have := leV_bd ((bs.drop pos).take 2) (fun z hz => HB.out z (List.mem_of_mem_drop (List.mem_of_mem_take hz)))
    rw [hl2] at this
    have h2 := this.2
    simp at h2
    exact ⟨(leV ((bs.drop pos).take 2)).toNat, by omega, by omega⟩
   have hT : textT (bs.drop pos) k = if k < n then ([], 0, 11) else if (bs.length : Int) - pos - 2 < n then ([], 0, 10) else (((bs.drop pos).drop 2).take n, 2 + n, 0) := by
    unfold textT
    rw [if_neg h1, hn]
    by_cases a1 : k < n
    ·rw [if_pos a1, if_pos a1]
    ·rw [if_neg a1, if_neg a1]
     simp only [List.length_drop, Int.toNat_natCast]
     by_cases a2 : (bs.length : Int) - pos - 2 < n
     ·rw [if_pos a2, if_pos (by omega)]
     ·rw [if_neg a2, if_neg (by omega)]
   rw [hT]
   clear hT
   have hv := fun w' (hrd : Rd w' (some ⟨g, pos, none⟩) ((bs.drop pos).take 2)) => qvalue_any (some ⟨g, pos, none⟩) (c - pos) ((bs.drop pos).take 2) (fun z hz => HB.out z (List.mem_of_mem_drop (List.mem_of_mem_take hz))) (by omega) w' hrd
   rw [hl2, hn] at hv
   have HV := hid hv
   have hr2 := (HR.out.drop pos).take 2
   rw [Nat.zero_add] at hr2
   have HR2 := hid hr2
   clear hv hr2 hn h1 hl2
   have HS := hid hs0
   clear hs0
   by_cases a1 : k < n
   ·rw [if_pos a1]
    go_enter Tryz.func104, Tryz.ntmps104
    go_wp2_with fail
    go_quiet (fail)
    go_wp2_with fail
    have HV1 := hid (HV.out (w.drewN nq).drew ((HR2.out.drewN nq).drew))
    have HV2 := hid (HV.out (w.drewN (nq + 1)) (HR2.out.drewN (nq + 1)))
    go_region_held3 (fun w' => w'.cell? ⟨b, 0, none⟩ = some (.slice (some ⟨g, 0, none⟩) bs.length c) ∧ w'.cell? ⟨b, 1, none⟩ = some (.int .i64 pos)) (first | go_keep | (exact ⟨c0, c1⟩) | (exact ⟨(hf2.cell (p := ⟨b, 0, none⟩) hlt List.not_mem_nil).trans c0, (hf2.cell (p := ⟨b, 1, none⟩) hlt List.not_mem_nil).trans c1⟩)) ((go_at_call 124; (first | (with_reducible refine HV1.out.mono ?_) | (with_reducible refine HV2.out.mono ?_)); rintro e w2 ⟨rfl, hf2⟩))
    have F2 := hid ((Frm.refl [] w).drewN (nq + 1) |>.trans (T := []) hf2 (by simp))
    have q1 := (F2.out.cell (p := ⟨b, 1, none⟩) hlt List.not_mem_nil).trans c1
    have q0 := (F2.out.cell (p := ⟨b, 0, none⟩) hlt List.not_mem_nil).trans c0
    have q2 := (F2.out.cell (p := ⟨b, 2, none⟩) hlt List.not_mem_nil).trans c2
    have qf1 := (F2.out.frozen (p := ⟨b, 1, none⟩) hlt List.not_mem_nil).trans f1
    have qf2 := (F2.out.frozen (p := ⟨b, 2, none⟩) hlt List.not_mem_nil).trans f2
    clear hf2
    go_wp2_with fail
    go_returns
    exact ⟨congrArg (fun s => Ending.returned (Value.string s)) HS.out.symm, (HW.out.kept F2.out (by simp) (by simp)).setErr 11, (F2.out.mono (by simp)).setCell _ _ (by simp)⟩
   ·rw [if_neg a1]
    by_cases a2 : (bs.length : Int) - pos - 2 < n
    ·rw [if_pos a2]
     go_enter Tryz.func104, Tryz.ntmps104
     go_wp2_with fail
     go_quiet (fail)
     go_wp2_with fail
     have HV1 := hid (HV.out (w.drewN nq).drew ((HR2.out.drewN nq).drew))
     have HV2 := hid (HV.out (w.drewN (nq + 1)) (HR2.out.drewN (nq + 1)))
     go_region_held3 (fun w' => w'.cell? ⟨b, 0, none⟩ = some (.slice (some ⟨g, 0, none⟩) bs.length c) ∧ w'.cell? ⟨b, 1, none⟩ = some (.int .i64 pos)) (first | go_keep | (exact ⟨c0, c1⟩) | (exact ⟨(hf2.cell (p := ⟨b, 0, none⟩) hlt List.not_mem_nil).trans c0, (hf2.cell (p := ⟨b, 1, none⟩) hlt List.not_mem_nil).trans c1⟩)) ((go_at_call 124; (first | (with_reducible refine HV1.out.mono ?_) | (with_reducible refine HV2.out.mono ?_)); rintro e w2 ⟨rfl, hf2⟩))
     have F2 := hid ((Frm.refl [] w).drewN (nq + 1) |>.trans (T := []) hf2 (by simp))
     have q1 := (F2.out.cell (p := ⟨b, 1, none⟩) hlt List.not_mem_nil).trans c1
     have q0 := (F2.out.cell (p := ⟨b, 0, none⟩) hlt List.not_mem_nil).trans c0
     have q2 := (F2.out.cell (p := ⟨b, 2, none⟩) hlt List.not_mem_nil).trans c2
     have qf1 := (F2.out.frozen (p := ⟨b, 1, none⟩) hlt List.not_mem_nil).trans f1
     have qf2 := (F2.out.frozen (p := ⟨b, 2, none⟩) hlt List.not_mem_nil).trans f2
     clear hf2
     go_wp2_with fail
     go_quiet (fail)
     go_wp2_with fail
     go_returns
     exact ⟨congrArg (fun s => Ending.returned (Value.string s)) HS.out.symm, (HW.out.kept (F2.out.drewN nq) (by simp) (by simp)).setErr 10, ((F2.out.drewN nq).mono (by simp)).setCell _ _ (by simp)⟩
    ·rw [if_neg a2]
     go_enter Tryz.func104, Tryz.ntmps104
     go_wp2_with fail
     go_quiet (fail)
     go_wp2_with fail
     have HV1 := hid (HV.out (w.drewN nq).drew ((HR2.out.drewN nq).drew))
     have HV2 := hid (HV.out (w.drewN (nq + 1)) (HR2.out.drewN (nq + 1)))
     go_region_held3 (fun w' => w'.cell? ⟨b, 0, none⟩ = some (.slice (some ⟨g, 0, none⟩) bs.length c) ∧ w'.cell? ⟨b, 1, none⟩ = some (.int .i64 pos)) (first | go_keep | (exact ⟨c0, c1⟩) | (exact ⟨(hf2.cell (p := ⟨b, 0, none⟩) hlt List.not_mem_nil).trans c0, (hf2.cell (p := ⟨b, 1, none⟩) hlt List.not_mem_nil).trans c1⟩)) ((go_at_call 124; (first | (with_reducible refine HV1.out.mono ?_) | (with_reducible refine HV2.out.mono ?_)); rintro e w2 ⟨rfl, hf2⟩))
     have F2 := hid ((Frm.refl [] w).drewN (nq + 1) |>.trans (T := []) hf2 (by simp))
     have q1 := (F2.out.cell (p := ⟨b, 1, none⟩) hlt List.not_mem_nil).trans c1
     have q0 := (F2.out.cell (p := ⟨b, 0, none⟩) hlt List.not_mem_nil).trans c0
     have q2 := (F2.out.cell (p := ⟨b, 2, none⟩) hlt List.not_mem_nil).trans c2
     have qf1 := (F2.out.frozen (p := ⟨b, 1, none⟩) hlt List.not_mem_nil).trans f1
     have qf2 := (F2.out.frozen (p := ⟨b, 2, none⟩) hlt List.not_mem_nil).trans f2
     clear hf2
     go_wp2_with fail
     go_quiet (fail)
     go_wp2_with fail
     have hwn : IntKind.i64.wrap (n : Int) = (n : Int) := IntWalk.i64_in _ (by omega)
     have hw3 : IntKind.i64.wrap ((pos : Int) + 2 + (n : Int)) = (pos : Int) + 2 + (n : Int) := IntWalk.i64_in _ (by omega)
     have b5 : (0 : Int) ≤ (pos : Int) + 2 := by omega
     have b6 : (pos : Int) + 2 ≤ (pos : Int) + 2 + (n : Int) := by omega
     have b7 : (pos : Int) + 2 + (n : Int) ≤ (c : Int) := by omega
     have hpn : pos + 2 + n ≤ bs.length := by omega
     have hrd3 : Rd w2 (if c = pos + 2 then (some ⟨g, 0, none⟩ : Option Addr) else some ⟨g, pos + 2, none⟩) (((bs.drop pos).drop 2).take n) := by
      by_cases hc2 : c = pos + 2
      ·exact Or.inl (by rw [List.take_eq_nil_iff]; left; omega)
      ·rw [if_neg hc2]
       have := ((((HR.out.kept F2.out (by simp)).drop pos).drop 2).take n)
       rwa [Nat.zero_add] at this
     have hln : (((bs.drop pos).drop 2).take n).length = n := by simp only [List.length_take, List.length_drop]; omega
     have hcv := fun m => conv_any (P := Tryz.prog) (w := w2.drewN m) 24 5 9 Tryz.underlying24 Tryz.underlying5 Tryz.underlying9 (hrd3.drewN m) (c - (pos + 2)) hln
     have hcd := fun m => conv_any (P := Tryz.prog) (w := (w2.drewN m).drew) 24 5 9 Tryz.underlying24 Tryz.underlying5 Tryz.underlying9 (hrd3.drewN m).drew (c - (pos + 2)) hln
     obtain ⟨S, hS⟩ := eX (strOfNums (((bs.drop pos).drop 2).take n))
     rw [hS] at hcv hcd
     have HSS := hid hS
     clear hS hrd3 hln b4
     have b8 : ((pos : Int) + 2).toNat = pos + 2 := by omega
     have b9 : ((pos : Int) + 2 + (n : Int)).toNat = pos + 2 + n := by omega
     rw [hwn]
     go_quiet (fail)
     clear hcv hcd
     generalize (if c = pos + 2 then (some ⟨g, 0, none⟩ : Option Addr) else some ⟨g, pos + 2, none⟩) = pp
     go_wp2_with fail
     go_returns
     have e3 : ((pos + (2 + n) : Nat) : Int) = (pos : Int) + 2 + (n : Int) := by omega
     have hq := fun m => (HW.out.kept (F2.out.drewN m) (by simp) (by simp)).setPos (n := pos + (2 + n)) (by omega)
     rw [e3] at hq
     have e4 : S = strOfNums (List.take n (List.drop (pos + 2) bs)) := by rw [← HSS.out, List.drop_drop]
     exact ⟨congrArg (fun s => Ending.returned (Value.string s)) e4, hq _, ((F2.out.drewN _).mono (by simp)).setCell _ _ (by simp)⟩
 ·rw [readS_err _ _ _ _ he]
  have HS := hid hs0
  clear hs0
  have hb : (err != 0) = true := by simpa using he
  go_enter Tryz.func104, Tryz.ntmps104
  go_wp2_with fail
  go_returns
  exact ⟨congrArg (fun s => Ending.returned (Value.string s)) HS.out.symm, HW.out.kept (Frm.refl [] _) (by simp) (by simp), Frm.refl _ _⟩
end
section
open Go.RowKit Go.Lib
def QrR (w0 w : World) (b : Nat) (p : Option Addr) (c : Nat) (bs : List Int) (s : Rst) : Prop := IsQ w b p c bs s.1 s.2 ∧ Frm [] w0 w ∧ w0.heap.size ≤ b ∧ ∀ k ∈ blk p, w0.heap.size ≤ k
theorem QrR.gen {S : List Nat} {w0 w w' : World} {b c : Nat} {p : Option Addr} {bs : List Int} {s : Rst} (h : QrR w0 w b p c bs s) (hf : Frm S w w') (hS : ∀ k ∈ S, w0.heap.size ≤ k ∧ k ≠ b ∧ k ∉ blk p) : QrR w0 w' b p c bs s :=
 ⟨h.1.kept hf (fun hm => (hS b hm).2.1 rfl) (fun k hk hm => (hS k hm).2.2 hk), h.2.1.trans hf (fun i hi hl => by have := (hS i hi).1; omega), h.2.2⟩
theorem QrR.k0 {w0 w w' : World} {b c : Nat} {p : Option Addr} {bs : List Int} {s : Rst} (h : QrR w0 w b p c bs s) (hf : Frm [] w w') : QrR w0 w' b p c bs s := h.gen hf (by simp)
theorem QrR.next {w0 w w' : World} {b c pos : Nat} {p : Option Addr} {bs : List Int} {s : Rst} {err : Int} (h : QrR w0 w b p c bs s) (h1 : IsQ w' b p c bs pos err) (hf : Frm [b] w w') : QrR w0 w' b p c bs (pos, err) :=
 ⟨h1, h.2.1.trans hf (fun i hi hl => by rw [List.mem_singleton] at hi; have := h.2.2.1; omega), h.2.2⟩
section
variable (w0 w : World) (b c : Nat) (p : Option Addr) (bs : List Int) (hb : ∀ z ∈ bs, 0 ≤ z ∧ z < 256) (s : Rst) (h : QrR w0 w b p c bs s)
include hb h
theorem qn_any (k : Int) (hk0 : 0 ≤ k) (hk : k ≤ 8) : Calls Tryz.prog 105 #[.pointer (some ⟨b, 0, none⟩), .int .i64 k] w fun e w' => e = .returned (.int .u64 (nuS bs s k).1) ∧ QrR w0 w' b p c bs (nuS bs s k).2 ∧ Frm [b] w w' :=
 (qnum_any b c s.1 p bs hb s.2 k w h.1 (by omega) (by omega)).mono (fun _ _ hh => ⟨hh.1, QrR.next h hh.2.1 hh.2.2, hh.2.2⟩)
theorem qt_any (k : Int) (hk0 : 0 ≤ k) (hk : k ≤ 65535) : Calls Tryz.prog 104 #[.pointer (some ⟨b, 0, none⟩), .int .i64 k] w fun e w' => e = .returned (.string (strOfNums (txS bs s k).1)) ∧ QrR w0 w' b p c bs (txS bs s k).2 ∧ Frm [b] w w' :=
 (qtext_any b c s.1 p bs hb s.2 k w h.1 (by omega) (by omega)).mono (fun _ _ hh => ⟨hh.1, QrR.next h hh.2.1 hh.2.2, hh.2.2⟩)
omit hb in
theorem qb_any (k : Int) (hk0 : 0 ≤ k) (hk : k < 72057594037927936) : Calls Tryz.prog 108 #[.pointer (some ⟨b, 0, none⟩), .int .i64 k] w fun e w' => ∃ q n d, e = .returned (.slice q n d) ∧ n = (byS bs s k).1.length ∧ Own w' 5 (.slice q n d) (byS bs s k).1 ∧ (∀ k ∈ blk q, w.heap.size ≤ k) ∧ QrR w0 w' b p c bs (byS bs s k).2 ∧ Frm [b] w w' := by
 refine (qbytes_any b c s.1 p bs s.2 k w h.1 (by omega) (by omega)).mono ?_
 rintro e w' ⟨q, n, d, he, h1, h2, h3, h4, h5⟩
 exact ⟨q, n, d, he, h1, h2, h3, QrR.next h h4 h5, h5⟩
end
def kpM (bs : List Int) (s : Rst) : Nat := min (nuS bs s 2).1.toNat 241
def tkD (bs : List Int) (more k : Int) (s : Rst) : List Int × Rst := kpS bs more k (nuS bs s 2).2 (kpM bs s)
theorem keepD_any (w0 w : World) (b c0 : Nat) (q : Option Addr) (bs : List Int) (hb : ∀ z ∈ bs, 0 ≤ z ∧ z < 256) (s : Rst) (h : QrR w0 w b q c0 bs s) (k more : Int) (hk0 : 0 ≤ k) (hk : k ≤ 7) (hm0 : 0 ≤ more) (hm1 : more ≤ 1) :
  Calls Tryz.prog 107 #[.pointer (some ⟨b, 0, none⟩), .int .i64 k, .int .i64 more] w fun e w' => ∃ p n c, e = .returned (.slice p n c) ∧ (tkD bs more k s).1.length = n ∧ w'.ownsRow 0 3 1 (.slice p n c) n ((tkD bs more k s).1.map (Value.int .i64)) ∧ (∀ k ∈ blk p, w.heap.size ≤ k) ∧ QrR w0 w' b q c0 bs (tkD bs more k s).2 ∧ Frm [b] w w' := by
 obtain ⟨PO, hPO⟩ : ∃ PO : Ending → World → Prop, (fun e w' => ∃ p n c, e = .returned (.slice p n c) ∧ (tkD bs more k s).1.length = n ∧ w'.ownsRow 0 3 1 (.slice p n c) n ((tkD bs more k s).1.map (Value.int .i64)) ∧ (∀ k ∈ blk p, w.heap.size ≤ k) ∧ QrR w0 w' b q c0 bs (tkD bs more k s).2 ∧ Frm [b] w w') = PO := ⟨_, rfl⟩
 rw [hPO]
 have HP : Hid (∀ p n c w', (tkD bs more k s).1.length = n → w'.ownsRow 0 3 1 (.slice p n c) n ((tkD bs more k s).1.map (Value.int .i64)) → (∀ k ∈ blk p, w.heap.size ≤ k) → QrR w0 w' b q c0 bs (tkD bs more k s).2 → Frm [b] w w' → PO (.returned (.slice p n c)) w') := hid (fun p n c w' h1 h2 h3 h4 h5 => by rw [← hPO]; exact ⟨p, n, c, rfl, h1, h2, h3, h4, h5⟩)
 have HN1 := hid (qn_any w0 w b c0 q bs hb s h 2 (by omega) (by omega))
 have HBS := hid hb
 have HW0 : Hid (w0.heap.size ≤ w.heap.size) := hid h.2.1.size
 have hbd := nuS_bd hb s 2 (by omega)
 obtain ⟨K, hK⟩ := eX (kpM bs s)
 have HTK : Hid (tkD bs more k s = kpS bs more k (nuS bs s 2).2 K) := hid (by rw [← hK]; rfl)
 unfold kpM at hK
 obtain ⟨v0, hv0⟩ := eX (nuS bs s 2)
 rw [hv0] at HN1 hbd HTK hK
 obtain ⟨TK, hTK⟩ := eX (tkD bs more k s)
 rw [hTK] at HP HTK
 have hKb : K ≤ 241 := by omega
 have hKv : (K : Int) ≤ v0.1 := by omega
 have HKE : Hid (K = 241 ∨ (K : Int) = v0.1) := hid (by omega)
 have hwr0 : IntKind.i64.wrap v0.1 = v0.1 := by rw [IntKind.wrap_i64]; omega
 clear h hb hv0 hTK hK hPO
 go_enter Tryz.func107, Tryz.ntmps107
 go_wp2_with fail
 refine HN1.out.mono ?_
 rintro e w2 ⟨rfl, hr1, hf1⟩
 have HR2 := hid hr1
 have HF2 := hid hf1
 clear hr1 hf1 HN1
 go_wp2_with fail
 go_loopw [7, 9] (fun l i wr => ∃ (t : Nat) (p : Option Addr) (c : Nat), t ≤ K ∧ l = .slice p t c ∧ i = .int .i64 (t : Int) ∧ Hid (wr.ownsRow 0 3 1 (.slice p t c) t ((kpS bs more k v0.2 t).1.map (Value.int .i64))) ∧ Hid (∀ j ∈ blk p, w.heap.size ≤ j ∧ j ≠ b ∧ j ∉ blk q) ∧ Hid (QrR w0 wr b q c0 bs (kpS bs more k v0.2 t).2) ∧ Hid (Frm [b] w wr)) (fun _ i _ => K - (intOf i).toNat)
 case atStart => exact ⟨0, none, 0, by omega, rfl, rfl, hid (World.ownsRow_nil _ _ _ _), hid (by simp [blk]), HR2, HF2⟩
 case round =>
  obtain ⟨t, p, c, ht, rfl, rfl, ho, hnw, hr, hf⟩ := hrel
  have HO := hid ho.out
  have HNW := hid hnw.out
  have HR := hid hr.out
  have HF := hid hf.out
  clear ho hnw hr hf HR2 HF2
  by_cases hlt : t < K
  case neg =>
   obtain rfl : t = K := by omega
   have HX : Hid (PO (.returned (.slice p t c)) wr) := hid (HP.out p t c wr (by rw [HTK.out, kpS_len]) (by rw [HTK.out]; exact HO.out) (fun k hk => (HNW.out k hk).1) (by rw [HTK.out]; exact HR.out) HF.out)
   clear hlt
   by_cases h1 : (t : Int) < v0.1
   case pos =>
    have h2 : ¬ (t : Int) < 241 := by have := HKE.out; omega
    have d2 := decide_eq_false h2
    go_wp2_with fail
    try go_returns
    exact HX.out
   have d1 := decide_eq_false h1
   go_wp2_with fail
   try go_returns
   exact HX.out
  have t1 : (t : Int) < v0.1 := by omega
  have t2 : (t : Int) < 241 := by omega
  have HSU : Hid (kpS bs more k v0.2 (t + 1) = ((kpS bs more k v0.2 t).1 ++ [(nuS bs (kpS bs more k v0.2 t).2 k).1 - more], (nuS bs (kpS bs more k v0.2 t).2 k).2)) := hid rfl
  have hll := kpS_len bs more k v0.2 t
  obtain ⟨LL, hLL⟩ := eX (kpS bs more k v0.2 t)
  rw [hLL] at HO HR HSU hll
  have HC := hid (qn_any w0 wr b c0 q bs HBS.out LL.2 HR.out k (by omega) (by omega))
  have hbd := nuS_bd HBS.out LL.2 k (by omega)
  obtain ⟨v, hv⟩ := eX (nuS bs LL.2 k)
  rw [hv] at HC hbd HSU
  have HLL := hid hll
  have hwr : IntKind.i64.wrap v.1 = v.1 := by rw [IntKind.wrap_i64]; omega
  have hw64 : wrap64 (v.1 - more) = v.1 - more := by unfold wrap64; omega
  clear hLL hv hll
  go_wp2_with fail
  refine HC.out.mono ?_
  rintro e x7 ⟨rfl, hr, hf⟩
  have HR7 := hid hr
  have HF7 := hid hf
  have HA := hid ((Frm.refl [] x7).alloc (.cells #[.int .i64 (v.1 - more)] 3))
  have HRV := hid (rv_block (heap_alloc_new x7 (.cells #[.int .i64 (v.1 - more)] 3)))
  have HOW := hid (ownsRow_kept (ownsRow_kept HO.out hf (fun k hk hm => by rw [List.mem_singleton] at hm; exact (HNW.out k hk).2.1 hm)) HA.out (by simp))
  have ht46 : t ≤ 241 := by omega
  clear hr hf HC
  go_wp2_with (at_builtin; refine wpList_appV rfl _ _ 23 rfl 3 1 8 _ Tryz.underlying23 infoInR rfl (by decide) p t c (LL.1.map (Value.int .i64)) rfl HOW.out (some ⟨x7.heap.size, 0, none⟩) 1 1 [.int .i64 (v.1 - more)] rfl rfl (by simp) HRV.out (by intro u hu; simp at hu; subst hu; rfl) (by unfold maxLen; omega) (by omega) ?_)
  intro p8 c8 w8 ho8 hf8 hb8
  have hfa : Frm (blk p) x7 w8 := (HA.out.mono (by simp)).trans hf8.out (fun i hi _ => hi)
  have hr7 := HR7.out
  have HNX : Hid (w8.ownsRow 0 3 1 (.slice p8 (t + 1) c8) (t + 1) ((kpS bs more k v0.2 (t + 1)).1.map (Value.int .i64)) ∧ (∀ j ∈ blk p8, w.heap.size ≤ j ∧ j ≠ b ∧ j ∉ blk q) ∧ QrR w0 w8 b q c0 bs (kpS bs more k v0.2 (t + 1)).2 ∧ Frm [b] w w8) := hid (by
   have h1 := HF.out.size
   have h2 := HF7.out.size
   rw [HSU.out]
   refine ⟨?_, fun j hj => ?_, hr7.gen hfa (fun i hi => ⟨by have h3 := (HNW.out i hi).1; have h4 := HW0.out; omega, (HNW.out i hi).2.1, (HNW.out i hi).2.2⟩), (HF.out.trans HF7.out (fun i hi _ => hi)).trans hfa (fun i hi hl => by have := (HNW.out i hi).1; omega)⟩
   ·have h := ho8.out
    simpa using h
   ·rcases hb8.out j hj with h | h
    ·exact HNW.out j h
    ·have e1 : (x7.alloc (.cells #[.int .i64 (v.1 - more)] 3)).heap.size = x7.heap.size + 1 := by simp
     have e2 := hr7.1.cells.1
     have e3 : ∀ i ∈ blk q, i < x7.heap.size := hr7.1.2.1.lows
     exact ⟨by omega, by omega, fun hq => by have := e3 j hq; omega⟩)
  clear ho8 hf8 hb8 hfa hr7 HRV HOW HA HR7 HF7 hbd hwr hw64 ht46
  go_wp2_with fail
  go_roundw
  case rel => exact ⟨t + 1, p8, c8, by omega, rfl, by go_num, hid HNX.out.1, hid HNX.out.2.1, hid HNX.out.2.2.1, hid HNX.out.2.2.2⟩
  case measure => simp [intOf] <;> omega
end
end Go.Proofs.YtajfjkfnmmfhmaaGreatDoor
