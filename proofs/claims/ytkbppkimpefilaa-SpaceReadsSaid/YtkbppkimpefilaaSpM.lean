/- SpaceReads, walked. -/
import Derived.Test.YtkbppkimpefilaaSpL
import Derived.Test.YtkbppkimpefilaaSpE
import Derived.Test.YtkbppkimpefilaaRowC
namespace Go.Proofs.Ytkbppkimpefilaa
open Go.RowKit Go.Lib
set_option maxRecDepth 100000

set_option maxHeartbeats 6400000 in
theorem spacereads_any (q : Option Addr) (m d : Nat) (w : World) (h' : Came w q m d) (hm : m ≤ 140737488351232) :
    Calls Try.prog 4 #[.slice q m d] w fun e w' => e = .returned (.bool true) ∧ Frm [] w w' := by
  obtain ⟨bs, b1, b2, b3, b4, b5, b6⟩ := h'
  subst b1
  have HAW := hid (awake10_any w)
  have HD := hid (fun W (hf : Frm [] w W) => decE_any q d bs b3 W (b2.kept hf (by simp)) (by omega))
  have HE := hid (fun W (hf : Frm [] w W) => refDecE_any q d bs b3 W (b2.kept hf (by simp)) b4 hm)
  obtain ⟨m, hmm⟩ : ∃ q, bs.length = q := ⟨_, rfl⟩
  rw [hmm] at HD HE ⊢
  have HMN : Hid (DecOk bs → many10 bs ≤ 4096) := hid (fun h => by
    have := (chkE_ok.1 h.2.2.2).1
    rw [entsV_len] at this
    exact this)
  clear b2 b3 b4 b5 b6 hm hmm
  go_enter Try.func4, Try.ntmps4
  go_wp2_with fail
  refine HAW.out.mono ?_
  rintro e w1 ⟨rfl, hf1⟩
  have HF1 := hid hf1
  clear hf1 HAW
  go_wp2_with fail
  refine (HD.out w1 HF1.out).mono ?_
  rintro e w2 h
  rcases h with ⟨hn, rfl, hf2⟩ | ⟨ho, p2, c2, rfl, o2, hf2, _⟩
  · have HF2 := hid (HF1.out.trans hf2 (by simp))
    have HN := hid hn
    clear hf2 hn HD
    go_wp2_with fail
    refine (HE.out w2 HF2.out).mono ?_
    rintro e w3 h
    rcases h with ⟨_, rfl, hf3⟩ | ⟨ho, _⟩
    · have HF3 := hid (HF2.out.trans hf3 (by simp))
      have HSA := hid (same10_any none none 0 0 [] 0 w3 (Or.inl rfl) (Or.inl rfl) rfl (by omega))
      clear hf3 HE
      go_wp2_with fail
      refine HSA.out.mono ?_
      rintro e w4 ⟨rfl, hf4⟩
      have HF4 := hid (HF3.out.trans hf4 (by simp))
      go_wp2_with fail
      first | go_returns | skip
      exact ⟨rfl, HF4.out⟩
    · exact absurd ho HN.out
  · have HF2 := hid (HF1.out.trans hf2 (by simp))
    have HO := hid ho
    have HO2 := hid o2
    have HM := hid (HMN.out ho)
    obtain ⟨N, hN⟩ : ∃ q, many10 bs = q := ⟨_, rfl⟩
    rw [hN] at HO2 HM ⊢
    have HNN := hid hN
    clear hf2 ho o2 HD hN
    go_wp2_with fail
    refine (HE.out w2 HF2.out).mono ?_
    rintro e w3 h
    rcases h with ⟨hn, _⟩ | ⟨_, p3, c3, rfl, o3, hf3, _⟩
    · exact absurd HO.out hn
    · rw [HNN.out] at o3 ⊢
      have HF3 := hid (HF2.out.trans hf3 (by simp))
      have HSA := hid (same10_any p2 p3 c2 c3 (entsV bs N) N w3 (HO2.out.kept hf3 (by simp)).rv o3.rv o3.2 (by have := HM.out; omega))
      clear hf3 o3 HE HO2
      go_wp2_with fail
      refine HSA.out.mono ?_
      rintro e w4 ⟨rfl, hf4⟩
      have HF4 := hid (HF3.out.trans hf4 (by simp))
      go_wp2_with fail
      first | go_returns | skip
      exact ⟨rfl, HF4.out⟩
end Go.Proofs.Ytkbppkimpefilaa
