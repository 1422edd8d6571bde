/- Disks and their power: what waits of one disk is taken away; the function that is told of it. -/
import Derived.Test.YtfclamndjnoopaaDskE
namespace Go.Proofs.Ytfclamndjnoopaa
open Go.RowKit Go.Lib
set_option maxRecDepth 100000

/-- What waits of other disks. -/
def restW (db : Nat) (ws : List Wt) : List Wt := ws.filter (fun x => !(x.disk == db))
/-- A platter behind what waits of its disk. -/
def over (db : Nat) (p : List Int) (ws : List Wt) : List Int := ws.foldl (fun p x => if x.disk = db then splice p (x.at_ * 128) x.bytes else p) p
theorem restW_app (db : Nat) (a b : List Wt) : restW db (a ++ b) = restW db a ++ restW db b := by simp [restW]
theorem over_app (db : Nat) (p : List Int) (a b : List Wt) : over db p (a ++ b) = over db (over db p a) b := by simp [over]
theorem take_succ_ws {l : List Wt} {j : Nat} (h : j < l.length) : l.take (j + 1) = l.take j ++ [l[j]] := List.take_succ_eq_append_getElem h
theorem restW_same {db : Nat} {x : Wt} (h : x.disk = db) : restW db [x] = [] := by simp [restW, h]
theorem restW_other {db : Nat} {x : Wt} (h : x.disk ≠ db) : restW db [x] = [x] := by simp [restW, h]
theorem over_same {db : Nat} {x : Wt} (p : List Int) (h : x.disk = db) : over db p [x] = splice p (x.at_ * 128) x.bytes := by simp [over, h]
theorem over_other {db : Nat} {x : Wt} (p : List Int) (h : x.disk ≠ db) : over db p [x] = p := by simp [over, h]
theorem restW_le (db : Nat) (ws : List Wt) : (restW db ws).length ≤ ws.length := List.length_filter_le _ _
set_option maxHeartbeats 1600000 in
theorem flush1_any (pb : Nat) (D : DSt) (bx gq k : Nat) (x : Wt) (W : World) (hd : IsDisk W pb D) (hb : W.cell? ⟨bx, 0, none⟩ = some (.pointer (some ⟨D.db, 0, none⟩))) (hx : W.rangeAt gq k x.row) (hxl : x.bytes.length = 128) (ha : x.at_ < D.n) (hxb : ∀ z ∈ x.bytes, 0 ≤ z ∧ z < 256) :
    Calls Try.prog 32 #[.pointer (some ⟨gq, k, none⟩), .pointer (some ⟨bx, 0, none⟩)] W fun e w' => e = .returned (.tuple #[]) ∧ IsDisk w' pb { D with plat := splice D.plat (x.at_ * 128) x.bytes } ∧ Frm [D.gp] W w' := by
  have HD := hid hd
  obtain ⟨d0, d1, d2, d3, d4⟩ := hd.cells
  have hn2 := hd.n2
  have c1 : W.cell? ⟨gq, k + 1, none⟩ = some (.int .i64 (x.at_ : Int)) := hx 1 _ rfl
  have HSE := hid (fun W => sector_any D.gp 0 (D.n * 128) (D.n * 128) x.at_ (by omega) (Nat.le_refl _) (by omega) W)
  simp only [Nat.zero_add] at HSE
  have HRX : Hid (Rd W.drew (some ⟨gq, k + 2, none⟩) x.bytes) := hid (Or.inr ⟨gq, k + 2, rfl, fun i hi => by
    have h := hx (i + 1 + 1) (.int .u8 (x.bytes.getD i 0)) (by
      unfold Wt.row
      rw [List.getElem?_cons_succ, List.getElem?_cons_succ]
      exact bv_get hi)
    rw [show k + 2 + i = k + (i + 1 + 1) by omega]
    exact h⟩)
  have HXL := hid hxl
  have HXB := hid hxb
  have HPN := hid hd.pn
  clear hd hx hxl hxb
  go_enter Try.func32, Try.ntmps32
  go_wp2_with fail
  go_still_tail 13, (by kernel_rfl)
  refine wpStill_step (fun K hK => ?_)
  go_simp
  refine ⟨_, HSE.out _, hK _ ?_⟩
  clear hK K
  repeat still_step
  refine wpStill_nil ?_
  change wpList _ _ _ _ _ W.drew
  have HD9 := hid (HD.out.kept ((Frm.refl [] W).drew) (by simp) (by simp) (by simp))
  have hF : Frm [D.gp] W W.drew := (Frm.refl _ W).drew
  have HF := hid hF
  clear d0 d1 d2 d3 d4 HSE hF
  go_wp2_with (refine wpList_copyV rfl _ _ 22 rfl 5 5 Try.underlying22 infoB 128 (D.n * 128 - x.at_ * 128) D.gp (x.at_ * 128) rfl (bv D.plat) HD9.out.pl (by have := HPN.out; simp [bv]; omega) (by omega) (some ⟨gq, k + 2, none⟩) 128 x.bytes rfl HRX.out HXL.out ?_)
  intro w2 hpl hf2
  have HFF := hid (HF.out.trans hf2.out (fun i hi hl => hi))
  have HDD : Hid (IsDisk w2 pb { D with plat := splice D.plat (x.at_ * 128) x.bytes }) := hid (by
    have hd9 := HD9.out
    have h := hpl.out
    have e : (bv D.plat).take (x.at_ * 128) ++ (bv x.bytes ++ (bv D.plat).drop (x.at_ * 128 + 128)) = bv (splice D.plat (x.at_ * 128) x.bytes) := by
      unfold splice
      rw [HXL.out]
      simp [bv, List.map_take, List.map_drop]
    rw [e] at h
    refine ⟨hf2.out.heap hd9.row (by simp; exact hd9.a2), h, hf2.out.heap hd9.se (by simp; exact fun h => hd9.a1 h.symm), ?_, hd9.sn, ?_, hd9.sz, hd9.n1, hd9.n2, hd9.a1, hd9.a2, hd9.a3⟩
    · show (splice _ _ _).length = _
      rw [splice_length (by rw [HXL.out, HPN.out]; omega), HPN.out]
    · intro z hz
      have hz' : z ∈ splice D.plat (x.at_ * 128) x.bytes := hz
      unfold splice at hz'
      simp only [List.mem_append] at hz'
      rcases hz' with (h | h) | h
      · exact hd9.pz z (List.mem_of_mem_take h)
      · exact HXB.out z h
      · exact hd9.pz z (List.mem_of_mem_drop h))
  clear hpl hf2 HD9 HRX HXL HPN HXB HD
  go_wp2_with fail
  go_returns
  exact ⟨rfl, HDD.out, HFF.out⟩
theorem forget1_any (v : Value) (W : World) :
    Calls Try.prog 45 #[v] W fun e w' => e = .returned (.tuple #[]) ∧ w' = W := by
  go_enter Try.func45, Try.ntmps45
  go_wp2_with fail
  go_returns
  exact ⟨rfl, rfl⟩
end Go.Proofs.Ytfclamndjnoopaa
