/- Plain: the value of the text that ParamsQuoted puts together. -/
import Derived.Test.YtcnihodikpcfkaaGreatDoorParW
namespace Go.Proofs.YtcnihodikpcfkaaGreatDoor
open Go Go.RowKit

theorem escB_eq : escB = fun c => if c == 34 || c == 92 then [92, c] else [c] := by
  funext c
  unfold escB hitB
  by_cases h : c = 34
  · subst h; rfl
  · by_cases h2 : c = 92
    · subst h2; rfl
    · simp [h, h2]
theorem unq_escL (t s acc : List UInt8) : unqL false acc (escL s ++ 34 :: t) = some (acc ++ s, t) := by
  unfold escL
  rw [escB_eq]
  exact unqL_esc t s acc
def qV (nm : List UInt8) (X : List UInt8) : Option (Prm × List UInt8) := match unqL false [] X with | none => none | some (v, r) => some ((nm, v), r)
theorem par0 (X : List UInt8) : parL ([59, 111, 110, 101, 61, 34] ++ X) = qV [111, 110, 101] X := by kernel_rfl
theorem par1 (X : List UInt8) : parL ([32, 59, 32, 116, 119, 111, 42, 48, 61, 34] ++ X) = qV [116, 119, 111, 42, 48] X := by kernel_rfl
theorem par2 (X : List UInt8) : parL ([59, 116, 119, 111, 42, 49, 32, 61, 32, 34] ++ X) = qV [116, 119, 111, 42, 49] X := by kernel_rfl
theorem qV_esc (nm s t : List UInt8) : qV nm (escL s ++ 34 :: t) = some ((nm, s), t) := by
  unfold qV
  rw [unq_escL]
  rfl
def qT2 (b : List UInt8) : List UInt8 := [59, 116, 119, 111, 42, 49, 32, 61, 32, 34] ++ (escL b ++ 34 :: [])
def qT1 (a b : List UInt8) : List UInt8 := [32, 59, 32, 116, 119, 111, 42, 48, 61, 34] ++ (escL a ++ 34 :: qT2 b)
def qT0 (a b : List UInt8) : List UInt8 := [59, 111, 110, 101, 61, 34] ++ (escL a ++ 34 :: qT1 a b)
def qPs (a b : List UInt8) : List Prm := [([111, 110, 101], a), ([116, 119, 111, 42, 48], a), ([116, 119, 111, 42, 49], b)]
theorem qT0_pars (a b : List UInt8) (n : Nat) (hn : (qT0 a b).length ≤ n) : parsL n (qT0 a b) = qPs a b := by
  have h0 : parL (qT0 a b) = some (([111, 110, 101], a), qT1 a b) := (par0 _).trans (qV_esc _ _ _)
  have h1 : parL (qT1 a b) = some (([116, 119, 111, 42, 48], a), qT2 b) := (par1 _).trans (qV_esc _ _ _)
  have h2 : parL (qT2 b) = some (([116, 119, 111, 42, 49], b), []) := (par2 _).trans (qV_esc _ _ _)
  have l0 := parL_len h0
  have l1 := parL_len h1
  rw [parsL_step h0 hn, parsL_step h1 (by omega), parsL_step h2 (by omega), parsL_end (by kernel_rfl)]
  rfl
theorem q_piece0 (a b : List UInt8) : pieceL (qPs a b) [116, 119, 111] 0 = some a := by
  unfold pieceL
  rw [Lib.decDigits_one (by decide)]
  kernel_rfl
theorem q_piece1 (a b : List UInt8) : pieceL (qPs a b) [116, 119, 111] 1 = some b := by
  unfold pieceL
  rw [Lib.decDigits_one (by decide)]
  kernel_rfl
theorem q_piece2 (a b : List UInt8) : pieceL (qPs a b) [116, 119, 111] 2 = none := by
  unfold pieceL
  rw [Lib.decDigits_one (by decide)]
  kernel_rfl
theorem q_told (a b : List UInt8) : toldL (qPs a b) [116, 119, 111] = some (a ++ b) := by
  have h : toldL (qPs a b) [116, 119, 111] = if (pieceL (qPs a b) [116, 119, 111] 0).isSome then some (pcsL (qPs a b) [116, 119, 111] 4 0) else none := by kernel_rfl
  rw [h, q_piece0, pcsL_step (q_piece0 a b), pcsL_step (q_piece1 a b), pcsL_end (q_piece2 a b), List.append_nil]
  rfl
def qOut (a b : List UInt8) : List Prm := [([111, 110, 101], a), ([116, 119, 111], a ++ b)]
theorem q_join (a b : List UInt8) : joinL (qPs a b) = qOut a b := by
  have h : joinL (qPs a b) = ([111, 110, 101], a) :: (match toldL (qPs a b) [116, 119, 111] with
      | some v => ([116, 119, 111], v) :: joinA (qPs a b) [[116, 119, 111], [111, 110, 101]] [([116, 119, 111, 42, 49], b)]
      | none => joinA (qPs a b) [[116, 119, 111], [111, 110, 101]] [([116, 119, 111, 42, 49], b)]) := by kernel_rfl
  rw [h, q_told]
  rfl
theorem q_head (X : List UInt8) : parseL ([120, 47, 121] ++ ([59, 111, 110, 101, 61, 34] ++ X)) true = some ⟨[120], [121], joinL (parsL ([59, 111, 110, 101, 61, 34] ++ X).length ([59, 111, 110, 101, 61, 34] ++ X))⟩ := by kernel_rfl
theorem q_parse (a b : List UInt8) : parseL ([120, 47, 121] ++ qT0 a b) true = some ⟨[120], [121], qOut a b⟩ := by
  have h := q_head (escL a ++ 34 :: qT1 a b)
  have e : [59, 111, 110, 101, 61, 34] ++ (escL a ++ 34 :: qT1 a b) = qT0 a b := rfl
  rw [e] at h
  rw [h, qT0_pars a b _ (Nat.le_refl _), q_join]
theorem q_text (a b : List UInt8) : [120, 47, 121, 59, 111, 110, 101, 61] ++ quoteL a ++ [32, 59, 32, 116, 119, 111, 42, 48, 61] ++ quoteL a ++ [59, 116, 119, 111, 42, 49, 32, 61, 32] ++ quoteL b = [120, 47, 121] ++ qT0 a b := by
  simp [qT0, qT1, qT2, quoteL]
theorem q_get1 (a b : List UInt8) : getP (qOut a b) [111, 110, 101] = some a := by kernel_rfl
theorem q_get2 (a b : List UInt8) : getP (qOut a b) [84, 87, 79] = some (a ++ b) := by kernel_rfl
theorem quoteL_len (l : List UInt8) : (quoteL l).length ≤ 2 * l.length + 2 := by
  have h1 := escL_len l
  have h2 := List.countP_le_length (p := hitB) (l := l)
  simp [quoteL]
  omega
end Go.Proofs.YtcnihodikpcfkaaGreatDoor
