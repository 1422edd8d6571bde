/- SHA-256 of the chapter's example, reckoned. -/
import Derived.Test.YtcnochabdhdlnaaDoorSumH
namespace Go.Proofs.YtcnochabdhdlnaaDoor
open Go.RowKit
set_option maxRecDepth 100000

theorem sha_abc : shaS [97, 98, 99] = ⟨13436514500253700074, 4702110809750118947, 12683088330831133340, 12975151322591401389⟩ := by
  have h : ((shaS [97, 98, 99]).a == 13436514500253700074 && (shaS [97, 98, 99]).b == 4702110809750118947 && (shaS [97, 98, 99]).c == 12683088330831133340 && (shaS [97, 98, 99]).d == 12975151322591401389) = true := by kernel_rfl
  simp only [Bool.and_eq_true, beq_iff_eq] at h
  obtain ⟨⟨⟨h1, h2⟩, h3⟩, h4⟩ := h
  generalize shaS [97, 98, 99] = s at h1 h2 h3 h4
  cases s
  simp_all
end Go.Proofs.YtcnochabdhdlnaaDoor
