/- Roam: journeys that are alike: what is said of them is the same. -/
import Derived.Test.YtklcanjlkmkmmaaRmE
namespace Go.Proofs.Ytklcanjlkmkmmaa.rmO
open Go.RowKit Go.Proofs.Ytklcanjlkmkmmaa.kit Go.Proofs.Ytklcanjlkmkmmaa.skyB Go.Proofs.Ytklcanjlkmkmmaa.skyD Go.Proofs.Ytklcanjlkmkmmaa.skyG Go.Proofs.Ytklcanjlkmkmmaa.skyI Go.Proofs.Ytklcanjlkmkmmaa.rmA Go.Proofs.Ytklcanjlkmkmmaa.rmB Go.Proofs.Ytklcanjlkmkmmaa.rmD Go.Proofs.Ytklcanjlkmkmmaa.rmE
set_option linter.unusedVariables false
set_option linter.unusedSimpArgs false

/-- The same starts and legs: they may lie elsewhere. -/
structure Like (rs rs' : List Rt) : Prop where
  len : rs'.length = rs.length
  at_ : ∀ k, k < rs.length → (rr rs' k).x = (rr rs k).x ∧ (rr rs' k).y = (rr rs k).y ∧ (rr rs' k).l = (rr rs k).l

theorem rr_out {rs : List Rt} {k : Nat} (h : rs.length ≤ k) : rr rs k = nor := by
  simp [rr, h]

theorem Like.all {rs rs' : List Rt} (h : Like rs rs') (k : Nat) : (rr rs' k).x = (rr rs k).x ∧ (rr rs' k).y = (rr rs k).y ∧ (rr rs' k).l = (rr rs k).l := by
  rcases Nat.lt_or_ge k rs.length with hk | hk
  · exact h.at_ k hk
  · rw [rr_out hk, rr_out (h.len ▸ hk)]
    exact ⟨rfl, rfl, rfl⟩

theorem Like.rtsOk {rs rs' : List Rt} (h : Like rs rs') : ∀ k, rmA.rtsOk rs' k = rmA.rtsOk rs k
  | 0 => rfl
  | k + 1 => by
    obtain ⟨a, b, c⟩ := h.all k
    show (rmA.rtsOk rs' k && skyH.routeOk _ _ _) = (rmA.rtsOk rs k && skyH.routeOk _ _ _)
    rw [h.rtsOk k, a, b, c]

theorem Like.jOk {rs rs' : List Rt} (h : Like rs rs') (m : List (Int × Int)) : jOk m rs' = jOk m rs := by
  unfold rmA.jOk
  rw [h.rtsOk, h.len]

theorem Like.addr {rs rs' : List Rt} (h : Like rs rs') (m : List (Int × Int)) (k : Nat) (t : Int) : addr m rs' k t = addr m rs k t := by
  obtain ⟨a, b, c⟩ := h.all k
  unfold rmB.addr
  rw [a, b, c]

theorem Like.goes {rs rs' : List Rt} (h : Like rs rs') (m : List (Int × Int)) (t k : Nat) : goes m rs' t k = goes m rs t k := by
  unfold rmD.goes
  rw [h.addr, h.addr]

theorem Like.mv {rs rs' : List Rt} (h : Like rs rs') (m : List (Int × Int)) (t : Nat) : ∀ k, mv m rs' t k = mv m rs t k
  | 0 => rfl
  | k + 1 => by
    show (if rmD.goes m rs' t k = true then rmD.mv m rs' t k ++ [moveA m rs' t k] else rmD.mv m rs' t k) = (if rmD.goes m rs t k = true then rmD.mv m rs t k ++ [moveA m rs t k] else rmD.mv m rs t k)
    have e : moveA m rs' t k = moveA m rs t k := by
      show (⟨6, k, 0, rmB.addr m rs' k t⟩ : Ac) = ⟨6, k, 0, rmB.addr m rs k t⟩
      rw [h.addr]
    rw [h.goes, h.mv m t k, e]

theorem Like.pl {rs rs' : List Rt} (h : Like rs rs') (m : List (Int × Int)) : ∀ t, pl m rs' t = pl m rs t
  | 0 => rfl
  | t + 1 => by
    show (if 0 < t then rmD.pl m rs' t ++ [waitA] else rmD.pl m rs' t) ++ rmD.mv m rs' t rs'.length = (if 0 < t then rmD.pl m rs t ++ [waitA] else rmD.pl m rs t) ++ rmD.mv m rs t rs.length
    rw [h.pl m t, h.mv, h.len]
end Go.Proofs.Ytklcanjlkmkmmaa.rmO
