/- Plain: values with parameters. -/
import Derived.Test.YtkmgflnmffdhjaaGreatDoorGbChars7
import Derived.Lib.ItoaLen
import Derived.Test.YtkmgflnmffdhjaaGreatDoorGbParC
import Derived.BigQuiet
import Derived.Deep.RegionLaw
import Derived.RegionCalls
import Derived.Lib.Bytealg
import Derived.Lib.Join
namespace Go.Proofs.YtkmgflnmffdhjaaGreatDoor
open Go Go.RowKit

def tokB (c : UInt8) : Bool := tokenI (c.toNat : Int)
/-- What is behind blanks and comments: within (so many) comments, behind a stroke or not. -/
def skL : Bool → Nat → List UInt8 → List UInt8
  | _, _, [] => []
  | true, d, _ :: l => skL false d l
  | false, 0, c :: l => if blk c then skL false 0 l else if c = 40 then skL false 1 l else c :: l
  | false, d + 1, c :: l => if c = 92 then skL true (d + 1) l else if c = 40 then skL false (d + 2) l else if c = 41 then skL false d l else skL false (d + 1) l
theorem skL_nil (e : Bool) (d : Nat) : skL e d [] = [] := by cases e <;> cases d <;> rfl
theorem skL_le : ∀ (l : List UInt8) (e : Bool) (d : Nat), (skL e d l).length ≤ l.length := by
  intro l
  induction l with
  | nil => intro e d; rw [skL_nil]; exact Nat.le_refl _
  | cons c l ih =>
    intro e d
    have h := fun e d => Nat.le_trans (ih e d) (Nat.le_succ l.length)
    cases e
    · cases d with
      | zero =>
        unfold skL
        split
        · exact h _ _
        · split
          · exact h _ _
          · exact Nat.le_refl _
      | succ d =>
        unfold skL
        split
        · exact h _ _
        · split
          · exact h _ _
          · split
            · exact h _ _
            · exact h _ _
    · exact h _ _
def sk (l : List UInt8) : List UInt8 := skL false 0 l
theorem sk_head : ∀ (l : List UInt8) (c : UInt8) (r : List UInt8) (e : Bool) (d : Nat), skL e d l = c :: r → blk c = false ∧ c ≠ 40 := by
  intro l
  induction l with
  | nil => intro c r e d h; rw [skL_nil] at h; cases h
  | cons x l ih =>
    intro c r e d h
    cases e
    · cases d with
      | zero =>
        unfold skL at h
        split at h
        · exact ih _ _ _ _ h
        · next h1 =>
          split at h
          · exact ih _ _ _ _ h
          · next h2 =>
            cases h
            exact ⟨by simpa using h1, h2⟩
      | succ d =>
        unfold skL at h
        split at h
        · exact ih _ _ _ _ h
        · split at h
          · exact ih _ _ _ _ h
          · split at h
            · exact ih _ _ _ _ h
            · exact ih _ _ _ _ h
    · exact ih _ _ _ _ h
def tokL (l : List UInt8) : List UInt8 := l.takeWhile tokB
/-- A quoted text behind its first sign: what it tells, and what is behind it. -/
def unqL : Bool → List UInt8 → List UInt8 → Option (List UInt8 × List UInt8)
  | _, _, [] => none
  | true, acc, c :: l => unqL false (acc ++ [c]) l
  | false, acc, c :: l => if c = 34 then some (acc, l) else if c = 92 then unqL true acc l else unqL false (acc ++ [c]) l
theorem unqL_len : ∀ (l acc : List UInt8) (e : Bool) (p : List UInt8 × List UInt8), unqL e acc l = some p → p.2.length < l.length := by
  intro l
  induction l with
  | nil => intro acc e p h; cases e <;> simp [unqL] at h
  | cons c l ih =>
    intro acc e p h
    cases e
    · unfold unqL at h
      split at h
      · cases h; exact Nat.lt_succ_self _
      · split at h
        · exact Nat.lt_succ_of_lt (ih _ _ _ h)
        · exact Nat.lt_succ_of_lt (ih _ _ _ h)
    · exact Nat.lt_succ_of_lt (ih _ _ _ h)

/-- A byte behind what is skipped. -/
def takeL (c : UInt8) (l : List UInt8) : Option (List UInt8) :=
  match sk l with
  | x :: r => if x = c then some r else none
  | [] => none
/-- A token behind what is skipped: it, and what is behind it. -/
def tokenL (l : List UInt8) : List UInt8 × List UInt8 := (tokL (sk l), (sk l).drop (tokL (sk l)).length)
/-- A value behind what is skipped. -/
def valueL (l : List UInt8) : Option (List UInt8 × List UInt8) :=
  match sk l with
  | c :: r => if c = 34 then unqL false [] r else if tokL (sk l) = [] then none else some (tokenL l)
  | [] => none
abbrev Prm := List UInt8 × List UInt8
def parL (l : List UInt8) : Option (Prm × List UInt8) :=
  match takeL 59 l with
  | none => none
  | some l1 =>
    if (tokenL l1).1 = [] then none
    else match takeL 61 (tokenL l1).2 with
      | none => none
      | some l2 => match valueL l2 with
        | none => none
        | some (v, r) => some ((foldS (tokenL l1).1, v), r)
def parsL : Nat → List UInt8 → List Prm
  | 0, _ => []
  | n + 1, l => match parL l with
    | none => []
    | some (p, r) => p :: parsL n r

theorem takeL_len {c : UInt8} {l r : List UInt8} (h : takeL c l = some r) : r.length < l.length := by
  unfold takeL at h
  have hl := skL_le l false 0
  split at h
  · next x r' e =>
    split at h
    · cases h
      unfold sk at e
      rw [e] at hl
      simp at hl
      omega
    · cases h
  · cases h
theorem tokenL_len (l : List UInt8) : (tokenL l).2.length ≤ l.length := by
  have hl := skL_le l false 0
  show ((skL false 0 l).drop _).length ≤ _
  rw [List.length_drop]
  omega
theorem valueL_len {l : List UInt8} {p : List UInt8 × List UInt8} (h : valueL l = some p) : p.2.length ≤ l.length := by
  unfold valueL at h
  have hl := skL_le l false 0
  split at h
  · next c r e =>
    split at h
    · have := unqL_len _ _ _ _ h
      unfold sk at e
      rw [e] at hl
      simp at hl
      omega
    · split at h
      · cases h
      · cases h
        exact tokenL_len l
  · cases h
theorem parL_len {l : List UInt8} {p : Prm} {r : List UInt8} (h : parL l = some (p, r)) : r.length < l.length := by
  unfold parL at h
  split at h
  · cases h
  · next l1 e1 =>
    have h1 := takeL_len e1
    split at h
    · cases h
    · split at h
      · cases h
      · next l2 e2 =>
        have h2 := takeL_len e2
        have h3 := tokenL_len l1
        split at h
        · cases h
        · next v r' e3 =>
          have h4 : r'.length ≤ l2.length := valueL_len e3
          cases h
          omega
theorem parsL_same : ∀ (n m : Nat) (l : List UInt8), l.length ≤ n → l.length ≤ m → parsL n l = parsL m l := by
  have nil : ∀ n, parsL n [] = [] := by
    intro n
    cases n with
    | zero => rfl
    | succ n =>
      show (match parL [] with | none => [] | some (p, r) => p :: parsL n r) = []
      cases hp : parL [] with
      | none => rfl
      | some x =>
        obtain ⟨p, r⟩ := x
        have := parL_len hp
        simp at this
  intro n
  induction n with
  | zero =>
    intro m l h _
    rw [List.eq_nil_of_length_eq_zero (Nat.le_zero.1 h), nil, nil]
  | succ n ih =>
    intro m l h h'
    cases m with
    | zero => rw [List.eq_nil_of_length_eq_zero (Nat.le_zero.1 h'), nil, nil]
    | succ m =>
      show (match parL l with | none => [] | some (p, r) => p :: parsL n r) = (match parL l with | none => [] | some (p, r) => p :: parsL m r)
      cases hp : parL l with
      | none => rfl
      | some x =>
        obtain ⟨p, r⟩ := x
        have := parL_len hp
        show p :: parsL n r = p :: parsL m r
        rw [ih m r (by omega) (by omega)]
theorem parsL_step {n : Nat} {l r : List UInt8} {p : Prm} (hp : parL l = some (p, r)) (h : l.length ≤ n) : parsL n l = p :: parsL n r := by
  have hl := parL_len hp
  cases n with
  | zero => omega
  | succ n =>
    have e : parsL (n + 1) l = p :: parsL n r := by
      show (match parL l with | none => [] | some (p, r) => p :: parsL n r) = _
      rw [hp]
    rw [e, parsL_same n (n + 1) r (by omega) (by omega)]
theorem parsL_end {n : Nat} {l : List UInt8} (hp : parL l = none) : parsL n l = [] := by
  cases n with
  | zero => rfl
  | succ n =>
    show (match parL l with | none => [] | some (p, r) => p :: parsL n r) = _
    rw [hp]

/-! ### What they tell -/
def baseL (l : List UInt8) : List UInt8 := l.takeWhile (fun c => c != 42)
def getV (ps : List Prm) (nm : List UInt8) : Option (List UInt8) := (ps.find? (fun p => p.1 == nm)).map (·.2)
def hexV (c : UInt8) : Option Nat :=
  if 48 ≤ c.toNat ∧ c.toNat ≤ 57 then some (c.toNat - 48) else if 97 ≤ c.toNat ∧ c.toNat ≤ 102 then some (c.toNat - 87) else if 65 ≤ c.toNat ∧ c.toNat ≤ 70 then some (c.toNat - 55) else none
def codeL : List UInt8 → Option UInt8
  | c :: a :: b :: _ => if c = 37 then (match hexV a, hexV b with | some x, some y => some (UInt8.ofNat (16 * x + y)) | _, _ => none) else none
  | _ => none
def openL : Nat → List UInt8 → List UInt8
  | 0, _ => []
  | _, [] => []
  | n + 1, c :: l => match codeL (c :: l) with
    | some x => x :: openL n (l.drop 2)
    | none => c :: openL n l
def opn (l : List UInt8) : List UInt8 := openL l.length l
def bareL (l : List UInt8) : List UInt8 :=
  match l.dropWhile (fun c => c != 39) with
  | _ :: r => (match r.dropWhile (fun c => c != 39) with
    | _ :: r2 => r2
    | [] => l)
  | [] => l
def pieceL (ps : List Prm) (b : List UInt8) (n : Nat) : Option (List UInt8) :=
  match getV ps (b ++ [42] ++ Lib.decDigits n) with
  | some v => some v
  | none => (getV ps (b ++ [42] ++ Lib.decDigits n ++ [42])).map (fun v => opn (if n = 0 then bareL v else v))
def pcsL (ps : List Prm) (b : List UInt8) : Nat → Nat → List UInt8
  | 0, _ => []
  | f + 1, n => match pieceL ps b n with
    | none => []
    | some v => v ++ pcsL ps b f (n + 1)
def toldL (ps : List Prm) (b : List UInt8) : Option (List UInt8) :=
  match getV ps b with
  | some v => some v
  | none => match getV ps (b ++ [42]) with
    | some v => some (opn (bareL v))
    | none => if (pieceL ps b 0).isSome then some (pcsL ps b (ps.length + 1) 0) else none
/-- The parameters that others tell of: pre are the bases that were. -/
def joinA (ps : List Prm) : List (List UInt8) → List Prm → List Prm
  | _, [] => []
  | pre, p :: t =>
    if baseL p.1 = [] ∨ baseL p.1 ∈ pre then joinA ps (baseL p.1 :: pre) t
    else match toldL ps (baseL p.1) with
      | some v => (baseL p.1, v) :: joinA ps (baseL p.1 :: pre) t
      | none => joinA ps (baseL p.1 :: pre) t
def joinL (ps : List Prm) : List Prm := joinA ps [] ps

structure Val where
  type : List UInt8
  sub : List UInt8
  params : List Prm
def subL (l : List UInt8) : Option (List UInt8 × List UInt8) :=
  match takeL 47 l with
  | none => none
  | some r => if (tokenL r).1 = [] then none else some (foldS (tokenL r).1, (tokenL r).2)
def parseL (l : List UInt8) (two : Bool) : Option Val :=
  if (tokenL l).1 = [] then none
  else if two then (match subL (tokenL l).2 with
    | none => none
    | some (u, r) => some ⟨foldS (tokenL l).1, u, joinL (parsL r.length r)⟩)
  else some ⟨foldS (tokenL l).1, [], joinL (parsL (tokenL l).2.length (tokenL l).2)⟩
end Go.Proofs.YtkmgflnmffdhjaaGreatDoor

/- A law of my own, of no function: a region that draws its order, whose callees only make memory: one walk, in the order of the text. -/
namespace Go.Proofs.YtkmgflnmffdhjaaGreatDoor
open Go Go.RowKit

/-- A world behind w, in which all that lay in w lies as it lay. -/
structure BW (w : World) where
  v : World
  h : Below w.heap.size w v
instance bwNonempty (w : World) : Nonempty (BW w) := ⟨⟨w, Below.refl _ _⟩⟩
theorem wp_region_below {P : Program} {id : Nat} {Q : Exit → Act → World → Prop} {a : Act} {w : World} {l : List Oper} (hm : P.follows .mixedOrders = true) (hB : Region.lexB .any l.toArray = true)
    (h : wpQuiet P l.toArray (fun w' => ∃ z : BW w, w' = z.v) (fun a' => ∀ w', (∃ z : BW w, w' = z.v) → Q .normal a' w') l a) : (Code.region id l.toArray true).wp P Q a w :=
  wp_region_quiet (C := fun w' => ∃ z : BW w, w' = z.v) hm hB ⟨⟨w.drew, (Below.refl _ _).drew⟩, rfl⟩ (by simpa using h)
theorem BW.calls {P : Program} {f : FuncId} {args : Array Value} {w : World} {z : BW w} {v : Value} (h : Calls P f args z.v fun e w' => e = .returned v ∧ Below z.v.heap.size z.v w') :
    Calls P f args z.v fun e w'' => e = .returned v ∧ ∃ z' : BW w, w'' = z'.v :=
  h.mono fun _ w' ⟨he, hb⟩ => ⟨he, ⟨⟨w', z.h.trans (hb.mono z.h.size)⟩, rfl⟩⟩
theorem BW.calls_same {P : Program} {f : FuncId} {args : Array Value} {w : World} {z : BW w} {v : Value} (h : Calls P f args z.v fun e w' => e = .returned v ∧ z.v = w') :
    Calls P f args z.v fun e w'' => e = .returned v ∧ ∃ z' : BW w, w'' = z'.v :=
  h.mono fun _ _ ⟨he, hb⟩ => ⟨he, ⟨z, hb.symm⟩⟩
theorem BW.cell {w : World} {a : Addr} {u : Value} (h : w.cell? a = some u) (z : BW w) : z.v.cell? a = some u :=
  (z.h.cell (World.block_lt_of_cell? w a h)).trans h
end Go.Proofs.YtkmgflnmffdhjaaGreatDoor

/- Contracts of package params: what is skipped. -/
namespace Go.Proofs.YtkmgflnmffdhjaaGreatDoor
open Go Go.RowKit

theorem skL_esc (d : Nat) (l : List UInt8) : skL true d l = skL false d (l.drop 1) := by
  cases l with
  | nil => rw [skL_nil]; exact (skL_nil _ _).symm
  | cons c l => rfl
theorem skL_stroke (d : Nat) (l : List UInt8) : skL false (d + 1) (92 :: l) = skL false (d + 1) (l.drop 1) := by
  rw [← skL_esc]
  rfl
theorem skL_open (d : Nat) (l : List UInt8) : skL false d (40 :: l) = skL false (d + 1) l := by cases d <;> rfl
theorem skL_shut (d : Nat) (l : List UInt8) : skL false (d + 1) (41 :: l) = skL false d l := rfl
theorem skL_other (d : Nat) (c : UInt8) (l : List UInt8) (h1 : c ≠ 92) (h2 : c ≠ 40) (h3 : c ≠ 41) : skL false (d + 1) (c :: l) = skL false (d + 1) l := by
  show (if c = 92 then _ else if c = 40 then _ else if c = 41 then _ else _) = _
  rw [if_neg h1, if_neg h2, if_neg h3]

set_option maxHeartbeats 1000000 in
theorem behindComment_any (s : ByteArray) (k : Nat) (w : World) (hl : s.size ≤ 1000000000) (hk : k < s.size) (h40 : s[k].toNat = 40) :
    Calls Tryz.prog 128 #[.string s, .int .i64 (k : Int)] w fun e w' => ∃ r : Nat, e = .returned (.int .i64 (r : Int)) ∧ k < r ∧ r ≤ s.size ∧ sk (s.data.toList.drop k) = sk (s.data.toList.drop r) ∧ w = w' := by
  have H40 := Lib.hid h40
  clear h40
  go_enter Tryz.func128, Tryz.ntmps128
  go_wp2_with fail
  go_loopg [1, 5] (s.size + 1 - k) (fun g v1 v5 wr => ∃ j d : Nat, g = s.size + 1 - j ∧ k ≤ j ∧ j ≤ s.size + 1 ∧ v1 = .int .i64 (j : Int) ∧ v5 = .int .i64 (d : Int) ∧ d ≤ j ∧ ((j = k ∧ d = 0) ∨ (k < j ∧ 1 ≤ d)) ∧ Hid (sk (s.data.toList.drop k) = skL false d (s.data.toList.drop j)) ∧ w = wr)
  case atStart => exact ⟨k, 0, by omega, by omega, by omega, rfl, rfl, by omega, .inl ⟨rfl, rfl⟩, rfl, rfl⟩
  case round =>
    obtain ⟨j, d, rfl, hkj, hj, rfl, rfl, hdj, hjd, HS, rfl⟩ := hrel
    by_cases hlt : j < s.size
    · have HD := Lib.hid (drop_cons s j hlt)
      rw [HD.out] at HS
      have HC := Lib.hid (fun (a : Nat) (h : s[j].toNat = a) (h2 : a < 256) => toNat_eq (a := s[j]) (b := byteN a) (by rw [h, byteN_toNat a h2]))
      by_cases h92 : s[j].toNat = 92
      · have hd1 : 1 ≤ d ∧ k < j := by
          rcases hjd with ⟨e, _⟩ | ⟨h1, h2⟩
          · subst e; have := H40.out; omega
          · exact ⟨h2, h1⟩
        have b1 : (((s[j].toNat : Nat) : Int) == 92) = true := beq_yes (by omega)
        have b4 : ((d : Int) == 0) = false := beq_no (by omega)
        have HC1 := Lib.hid (HC.out 92 h92 (by omega))
        clear HC
        go_wp2_with fail
        go_roundg (s.size + 1 - (j + 2))
        case measure => omega
        case rel =>
          refine ⟨j + 2, d, rfl, by omega, by omega, by go_num, rfl, by omega, .inr ⟨by omega, hd1.1⟩, ?_, rfl⟩
          unfold Hid
          obtain ⟨d', rfl⟩ : ∃ d', d = d' + 1 := ⟨d - 1, by omega⟩
          rw [HS.out, HC1.out]
          refine (skL_stroke _ _).trans ?_
          rw [List.drop_drop]
      · have b1 : (((s[j].toNat : Nat) : Int) == 92) = false := beq_no (by omega)
        have HN1 : Hid (s[j] ≠ 92) := fun e => h92 (by rw [e]; rfl)
        by_cases h40 : s[j].toNat = 40
        · have b2 : (((s[j].toNat : Nat) : Int) == 40) = true := beq_yes (by omega)
          have b4 : (((d : Int) + 1) == 0) = false := beq_no (by omega)
          have HC1 := Lib.hid (HC.out 40 h40 (by omega))
          clear HC
          go_wp2_with fail
          go_roundg (s.size + 1 - (j + 1))
          case measure => omega
          case rel =>
            refine ⟨j + 1, d + 1, rfl, by omega, by omega, by go_num, by go_num, by omega, .inr ⟨by omega, by omega⟩, ?_, rfl⟩
            unfold Hid
            rw [HS.out, HC1.out]
            exact skL_open _ _
        · have b2 : (((s[j].toNat : Nat) : Int) == 40) = false := beq_no (by omega)
          have HN2 : Hid (s[j] ≠ 40) := fun e => h40 (by rw [e]; rfl)
          have hd1 : 1 ≤ d ∧ k < j := by
            rcases hjd with ⟨e, _⟩ | ⟨h1, h2⟩
            · subst e; exact absurd H40.out h40
            · exact ⟨h2, h1⟩
          by_cases h41 : s[j].toNat = 41
          · have b3 : (((s[j].toNat : Nat) : Int) == 41) = true := beq_yes (by omega)
            have HC1 := Lib.hid (HC.out 41 h41 (by omega))
            clear HC
            by_cases hd : d = 1
            · subst hd
              go_wp2_with fail
              go_ret
              refine ⟨j + 1, by go_num, by omega, by omega, ?_, rfl⟩
              rw [HS.out, HC1.out]
              exact skL_shut 0 _
            · have b4 : (((d : Int) - 1) == 0) = false := beq_no (by omega)
              go_wp2_with fail
              go_roundg (s.size + 1 - (j + 1))
              case measure => omega
              case rel =>
                refine ⟨j + 1, d - 1, rfl, by omega, by omega, by go_num, by go_num, by omega, .inr ⟨by omega, by omega⟩, ?_, rfl⟩
                unfold Hid
                obtain ⟨d', rfl⟩ : ∃ d', d = d' + 1 := ⟨d - 1, by omega⟩
                rw [HS.out, HC1.out]
                exact skL_shut _ _
          · have b3 : (((s[j].toNat : Nat) : Int) == 41) = false := beq_no (by omega)
            have HN3 : Hid (s[j] ≠ 41) := fun e => h41 (by rw [e]; rfl)
            have b4 : ((d : Int) == 0) = false := beq_no (by omega)
            clear HC
            go_wp2_with fail
            go_roundg (s.size + 1 - (j + 1))
            case measure => omega
            case rel =>
              refine ⟨j + 1, d, rfl, by omega, by omega, by go_num, rfl, by omega, .inr ⟨by omega, hd1.1⟩, ?_, rfl⟩
              unfold Hid
              obtain ⟨d', rfl⟩ : ∃ d', d = d' + 1 := ⟨d - 1, by omega⟩
              rw [HS.out]
              exact skL_other _ _ _ HN1.out HN2.out HN3.out
    · have HE : Hid (s.data.toList.drop j = []) := List.drop_eq_nil_of_le (by simp; omega)
      go_wp2_with fail
      go_ret
      refine ⟨s.size, rfl, hk, Nat.le_refl _, ?_, rfl⟩
      rw [HS.out, HE.out, skL_nil, List.drop_eq_nil_of_le (by simp)]
      exact (skL_nil _ _).symm

theorem token_byte (c : UInt8) (w : World) :
    Calls Tryz.prog 129 #[.int .u8 (c.toNat : Int)] w fun e w' => e = .returned (.bool (tokB c)) ∧ Below w.heap.size w w' :=
  token_any _ w (by omega) (by have := c.toNat_lt; omega)
theorem behindToken_any (s : ByteArray) (k : Nat) (w : World) (hl : s.size ≤ 1000000000) (hk : k ≤ s.size) :
    Calls Tryz.prog 97 #[.string s, .int .i64 (k : Int)] w fun e w' => e = .returned (.int .i64 ((k + (tokL (s.data.toList.drop k)).length : Nat) : Int)) ∧ Below w.heap.size w w' := by
  have HT := Lib.hid token_byte
  obtain ⟨N, hN⟩ : ∃ N, N = k + (tokL (s.data.toList.drop k)).length := ⟨_, rfl⟩
  rw [← hN]
  have HN : Hid (N = k + (tokL (s.data.toList.drop k)).length) := hN
  clear hN
  go_enter Tryz.func97, Tryz.ntmps97
  go_wp2_with fail
  go_loopg [1] (s.size - k) (fun g v1 wr => ∃ j : Nat, g = s.size - j ∧ k ≤ j ∧ j ≤ s.size ∧ v1 = .int .i64 (j : Int) ∧ Hid (N = j + (tokL (s.data.toList.drop j)).length) ∧ Hid (Below w.heap.size w wr))
  case atStart => exact ⟨k, by omega, by omega, by omega, rfl, HN.out, Below.refl _ _⟩
  case round =>
    obtain ⟨j, rfl, hkj, hj, rfl, HS, HB⟩ := hrel
    by_cases hlt : j < s.size
    · have HD := Lib.hid (drop_cons s j hlt)
      rw [HD.out] at HS
      have HTj := Lib.hid (HT.out s[j] wr)
      rcases Bool.eq_false_or_eq_true (tokB s[j]) with ht | ht
      · rw [ht] at HTj
        have HL : Hid (tokL (s[j] :: s.data.toList.drop (j + 1)) = s[j] :: tokL (s.data.toList.drop (j + 1))) := by unfold Hid tokL; rw [List.takeWhile_cons, if_pos ht]
        go_wp2_with (go_at_call 129; refine HTj.out.mono ?_; rintro e w1 ⟨rfl, hb1⟩)
        go_roundg (s.size - (j + 1))
        case measure => omega
        case rel =>
          refine ⟨j + 1, rfl, by omega, by omega, by go_num, ?_, HB.out.trans (hb1.mono HB.out.size)⟩
          unfold Hid
          rw [HS.out, HL.out, List.length_cons]
          omega
      · rw [ht] at HTj
        have HL : Hid (tokL (s[j] :: s.data.toList.drop (j + 1)) = []) := by unfold Hid tokL; rw [List.takeWhile_cons, if_neg (by rw [ht]; simp)]
        go_wp2_with (go_at_call 129; refine HTj.out.mono ?_; rintro e w1 ⟨rfl, hb1⟩)
        go_ret
        refine ⟨?_, HB.out.trans (hb1.mono HB.out.size)⟩
        rw [HS.out, HL.out]
        rfl
    · have HE : Hid (s.data.toList.drop j = []) := List.drop_eq_nil_of_le (by simp; omega)
      go_wp2_with fail
      go_ret
      refine ⟨?_, HB.out⟩
      rw [HS.out, HE.out]
      rfl
end Go.Proofs.YtkmgflnmffdhjaaGreatDoor

/- Plain: addresses: the pieces of a text, and what they make. -/
namespace Go.Proofs.YtkmgflnmffdhjaaGreatDoor
open Go Go.RowKit

/-! ### Pieces -/
def signB (c : UInt8) : Bool := c == 60 || c == 62 || c == 58 || c == 59 || c == 44 || c == 64
def partB (c : UInt8) : Bool := c == 40 || c == 41 || c == 34
def wordBA (c : UInt8) : Bool := decide (32 < c.toNat) && (decide (c.toNat ≠ 127) && (!signB c && !partB c))
def preA (c : UInt8) (o : Option (List UInt8 × List UInt8)) : Option (List UInt8 × List UInt8) := o.map (fun p => (c :: p.1, p.2))
/-- A word that isn't quoted, within '[' and ']' or not: it, and what is behind it. -/
def bareA : Bool → List UInt8 → Option (List UInt8 × List UInt8)
  | false, [] => some ([], [])
  | true, [] => none
  | true, c :: l => preA c (bareA (c != 93) l)
  | false, c :: l => if c = 91 then preA c (bareA true l) else if wordBA c then preA c (bareA false l) else some ([], c :: l)
theorem bareA_app : ∀ (l : List UInt8) (e : Bool) (w r : List UInt8), bareA e l = some (w, r) → l = w ++ r := by
  have step : ∀ (c : UInt8) (l : List UInt8) (o : Option (List UInt8 × List UInt8)) (w r : List UInt8), preA c o = some (w, r) → (∀ w r, o = some (w, r) → l = w ++ r) → c :: l = w ++ r := by
    intro c l o w r h ih
    cases o with
    | none => cases h
    | some p =>
      obtain ⟨w', r'⟩ := p
      have := ih w' r' rfl
      unfold preA at h
      cases h
      rw [this]
      rfl
  intro l
  induction l with
  | nil => intro e w r h; cases e <;> cases h; rfl
  | cons c l ih =>
    intro e w r h
    cases e
    · unfold bareA at h
      split at h
      · exact step _ _ _ _ _ h (ih _)
      · split at h
        · exact step _ _ _ _ _ h (ih _)
        · cases h; rfl
    · exact step _ _ _ _ _ h (ih _)
theorem index_93 : ∀ l : List UInt8, (Lib.indexByte l 93 = -1 ∧ bareA true l = none) ∨
    ∃ n : Nat, Lib.indexByte l 93 = (n : Int) ∧ n < l.length ∧ bareA true l = (bareA false (l.drop (n + 1))).map (fun p => (l.take (n + 1) ++ p.1, p.2)) := by
  intro l
  induction l with
  | nil => exact .inl ⟨rfl, rfl⟩
  | cons c l ih =>
    by_cases hc : c = 93
    · subst hc
      refine .inr ⟨0, rfl, by simp, ?_⟩
      show preA 93 (bareA false l) = _
      unfold preA
      simp
    · have e1 : (c == 93) = false := by simpa using hc
      have e2 : bareA true (c :: l) = preA c (bareA true l) := by
        show preA c (bareA (c != 93) l) = _
        rw [show (c != 93) = true by simpa using hc]
      rcases ih with ⟨h1, h2⟩ | ⟨n, h1, h2, h3⟩
      · left
        refine ⟨?_, by rw [e2, h2]; rfl⟩
        unfold Lib.indexByte
        rw [e1, h1]
        rfl
      · right
        refine ⟨n + 1, ?_, by simpa using h2, ?_⟩
        · unfold Lib.indexByte
          rw [e1, h1, if_neg (by simp), if_neg (by simp)]
          rfl
        · rw [e2, h3]
          unfold preA
          rw [Option.map_map]
          rfl

inductive Tok where
  | sgn (c : UInt8)
  | wrd (w : List UInt8)
inductive Pc where
  | tok (t : Tok) (r : List UInt8)
  | fin (b : Bool)
/-- The piece at the beginning of a text. -/
def pcL : List UInt8 → Pc
  | [] => .fin true
  | c :: r =>
    if signB c then .tok (.sgn c) r
    else if c = 34 then (match unqL false [] r with | some (v, q) => .tok (.wrd v) q | none => .fin false)
    else (match bareA false (c :: r) with | some (w, q) => if w = [] then .fin false else .tok (.wrd w) q | none => .fin false)
def toksF : Nat → List UInt8 → List Tok × Bool
  | 0, _ => ([], false)
  | n + 1, l => match pcL (sk l) with
    | .tok t r => (t :: (toksF n r).1, (toksF n r).2)
    | .fin b => ([], b)
/-- A text's pieces; whether there is nothing left behind them. -/
def toksA (l : List UInt8) : List Tok × Bool := toksF (l.length + 1) l
def tokWA : Tok → Nat
  | .sgn _ => 1
  | .wrd w => w.length + 1
def wt (ts : List Tok) : Nat := (ts.map tokWA).sum
theorem wt_cons (t : Tok) (ts : List Tok) : wt (t :: ts) = tokWA t + wt ts := by simp [wt]
theorem unqL_wt : ∀ (l acc : List UInt8) (e : Bool) (v r : List UInt8), unqL e acc l = some (v, r) → v.length + r.length + 1 ≤ acc.length + l.length := by
  intro l
  induction l with
  | nil => intro acc e v r h; cases e <;> simp [unqL] at h
  | cons c l ih =>
    intro acc e v r h
    cases e
    · unfold unqL at h
      split at h
      · cases h; simp; omega
      · split at h
        · have := ih _ _ _ _ h; simp; omega
        · have := ih _ _ _ _ h; simp at this; simp; omega
    · have := ih _ _ _ _ h; simp at this; simp; omega
theorem pcL_cons (c : UInt8) (r : List UInt8) : pcL (c :: r) = if signB c then .tok (.sgn c) r
    else if c = 34 then (match unqL false [] r with | some (v, q) => .tok (.wrd v) q | none => .fin false)
    else (match bareA false (c :: r) with | some (w, q) => if w = [] then .fin false else .tok (.wrd w) q | none => .fin false) := rfl
theorem pcL_wt {l r : List UInt8} {t : Tok} (h : pcL l = .tok t r) : tokWA t + 2 * r.length ≤ 2 * l.length ∧ r.length < l.length := by
  cases l with
  | nil => cases h
  | cons c q =>
    rw [pcL_cons] at h
    rw [List.length_cons]
    by_cases hs : signB c = true
    · rw [if_pos hs] at h
      cases h
      simp only [tokWA]
      omega
    · rw [if_neg hs] at h
      by_cases hc : c = 34
      · rw [if_pos hc] at h
        cases hu : unqL false [] q with
        | none => rw [hu] at h; cases h
        | some p =>
          obtain ⟨v, q'⟩ := p
          rw [hu] at h
          cases h
          have := unqL_wt _ _ _ _ _ hu
          simp only [List.length_nil] at this
          simp only [tokWA]
          omega
      · rw [if_neg hc] at h
        cases hu : bareA false (c :: q) with
        | none => rw [hu] at h; cases h
        | some p =>
          obtain ⟨w, q'⟩ := p
          rw [hu] at h
          simp only at h
          by_cases hw : w = []
          · rw [if_pos hw] at h; cases h
          · rw [if_neg hw] at h
            cases h
            have e2 := bareA_app _ _ _ _ hu
            have h1 : (c :: q).length = w.length + r.length := by rw [e2]; simp
            have h2 : 0 < w.length := List.length_pos_iff.2 hw
            rw [List.length_cons] at h1
            simp only [tokWA]
            omega
theorem sk_le (l : List UInt8) : (sk l).length ≤ l.length := skL_le l false 0
theorem toksF_same : ∀ (n m : Nat) (l : List UInt8), l.length < n → l.length < m → toksF n l = toksF m l := by
  intro n
  induction n with
  | zero => intro m l h; omega
  | succ n ih =>
    intro m l h1 h2
    cases m with
    | zero => omega
    | succ m =>
      unfold toksF
      have hs := sk_le l
      split
      · next t r e =>
        have := (pcL_wt e).2
        rw [ih m r (by omega) (by omega)]
      · rfl
theorem toksA_tok {l r : List UInt8} {t : Tok} (h : pcL (sk l) = .tok t r) : toksA l = (t :: (toksA r).1, (toksA r).2) := by
  have hs := sk_le l
  have := (pcL_wt h).2
  unfold toksA
  rw [show toksF (l.length + 1) l = (t :: (toksF l.length r).1, (toksF l.length r).2) by
    show (match pcL (sk l) with | .tok t r => (t :: (toksF l.length r).1, (toksF l.length r).2) | .fin b => ([], b)) = _
    rw [h], toksF_same l.length (r.length + 1) r (by omega) (by omega)]
theorem toksA_fin {l : List UInt8} {b : Bool} (h : pcL (sk l) = .fin b) : toksA l = ([], b) := by
  show (match pcL (sk l) with | .tok t r => (t :: (toksF l.length r).1, (toksF l.length r).2) | .fin b => ([], b)) = _
  rw [h]
theorem toksA_wt : ∀ (n : Nat) (l : List UInt8), l.length ≤ n → wt (toksA l).1 ≤ 2 * l.length := by
  intro n
  induction n with
  | zero =>
    intro l h
    have : l = [] := List.eq_nil_of_length_eq_zero (Nat.le_zero.1 h)
    subst this
    exact Nat.le_refl _
  | succ n ih =>
    intro l h
    have hs := sk_le l
    cases hp : pcL (sk l) with
    | tok t r =>
      have hw := pcL_wt hp
      rw [toksA_tok hp, wt_cons]
      have := ih r (by omega)
      omega
    | fin b =>
      rw [toksA_fin hp]
      exact Nat.zero_le _
theorem wt_len (ts : List Tok) : ts.length ≤ wt ts := by
  induction ts with
  | nil => exact Nat.le_refl _
  | cons t ts ih =>
    rw [wt_cons, List.length_cons]
    have : 1 ≤ tokWA t := by cases t <;> simp [tokWA]
    omega

/-! ### What pieces make -/
structure Adr where
  kind : Nat
  name : List UInt8
  loc : List UInt8
  host : List UInt8
  deriving DecidableEq
def takesT (c : UInt8) : List Tok → Bool × List Tok
  | [] => (false, [])
  | .wrd w :: ts => (false, .wrd w :: ts)
  | .sgn d :: ts => if d = c then (true, ts) else (false, .sgn d :: ts)
def wordT : List Tok → Option (List UInt8) × List Tok
  | [] => (none, [])
  | .wrd w :: ts => (some w, ts)
  | .sgn d :: ts => (none, .sgn d :: ts)
def wordsT : List Tok → List (List UInt8) × List Tok
  | [] => ([], [])
  | .wrd w :: ts => (w :: (wordsT ts).1, (wordsT ts).2)
  | .sgn d :: ts => ([], .sgn d :: ts)
/-- What is behind a way of which the first sign was read. -/
def wayL : Nat → List Tok → Bool × List Tok
  | 0, ts => (false, ts)
  | n + 1, ts => match wordT ts with
    | (none, t1) => (false, t1)
    | (some _, t1) => match takesT 64 (takesT 44 t1).2 with
      | (true, t2) => wayL n t2
      | (false, t2) => takesT 58 t2
def wayT (ts : List Tok) : Bool × List Tok :=
  match takesT 64 ts with
  | (false, t1) => (true, t1)
  | (true, t1) => wayL (t1.length + 1) t1
def hostT (ts : List Tok) : List UInt8 × Bool × List Tok :=
  match takesT 64 ts with
  | (false, t1) => ([], true, t1)
  | (true, t1) => match wordT t1 with
    | (some h, t2) => (h, true, t2)
    | (none, t2) => ([], false, t2)
abbrev Res := Bool × List Tok × List Adr
def placeT (name : List UInt8) (ws : List (List UInt8)) (ts : List Tok) : Res :=
  ((hostT ts).2.1 && !ws.isEmpty, (hostT ts).2.2, [⟨0, name, Lib.join ws [], (hostT ts).1⟩])
def boxT (ws : List (List UInt8)) (ts : List Tok) : Res :=
  match takesT 60 ts with
  | (false, t1) => if ws.isEmpty then (true, t1, []) else placeT [] ws t1
  | (true, t1) => match wayT t1 with
    | (false, t2) => (false, t2, [])
    | (true, t2) => match placeT (Lib.join ws [32]) (wordsT t2).1 (wordsT t2).2 with
      | (false, t3, l) => (false, t3, l)
      | (true, t3, l) => ((takesT 62 t3).1, (takesT 62 t3).2, l)
def wboxT (ts : List Tok) : Res := boxT (wordsT ts).1 (wordsT ts).2
def itemsT (item : List Tok → Res) : Nat → List Tok → Res
  | 0, ts => (false, ts, [])
  | n + 1, ts => match item ts with
    | (false, t1, l) => (false, t1, l)
    | (true, t1, l) => match takesT 44 t1 with
      | (false, t2) => (true, t2, l)
      | (true, t2) => ((itemsT item n t2).1, (itemsT item n t2).2.1, l ++ (itemsT item n t2).2.2)
def groupT (name : List (List UInt8)) (ts : List Tok) : Res :=
  match itemsT wboxT (ts.length + 1) ts with
  | (false, t1, l) => (false, t1, ⟨1, Lib.join name [32], [], []⟩ :: l ++ [⟨2, [], [], []⟩])
  | (true, t1, l) => ((takesT 59 t1).1, (takesT 59 t1).2, ⟨1, Lib.join name [32], [], []⟩ :: l ++ [⟨2, [], [], []⟩])
def itemT (ts : List Tok) : Res :=
  match takesT 58 (wordsT ts).2 with
  | (true, t1) => groupT (wordsT ts).1 t1
  | (false, t1) => boxT (wordsT ts).1 t1
/-- The addresses of a text. -/
def listT (p : List Tok × Bool) : Option (List Adr) :=
  match itemsT itemT (p.1.length + 1) p.1 with
  | (true, [], l) => if p.2 then some l else none
  | _ => none
def listA (l : List UInt8) : Option (List Adr) := listT (toksA l)

theorem takesT_len (c : UInt8) (ts : List Tok) : (takesT c ts).2.length + (if (takesT c ts).1 then 1 else 0) = ts.length := by
  cases ts with
  | nil => rfl
  | cons t ts =>
    cases t with
    | wrd w => rfl
    | sgn d => by_cases h : d = c <;> simp [takesT, h]
theorem takesT_le (c : UInt8) (ts : List Tok) : (takesT c ts).2.length ≤ ts.length := by have := takesT_len c ts; omega
theorem wordT_len (ts : List Tok) : (wordT ts).2.length + (if (wordT ts).1.isSome then 1 else 0) = ts.length := by
  cases ts with
  | nil => rfl
  | cons t ts => cases t <;> rfl
theorem wordsT_len (ts : List Tok) : (wordsT ts).1.length + (wordsT ts).2.length = ts.length := by
  induction ts with
  | nil => rfl
  | cons t ts ih =>
    cases t with
    | wrd w =>
      show (wordsT ts).1.length + 1 + (wordsT ts).2.length = ts.length + 1
      omega
    | sgn d => exact Nat.zero_add _
def wsW (ws : List (List UInt8)) : Nat := (ws.map (fun w => w.length + 1)).sum
theorem wsW_cons (w : List UInt8) (ws : List (List UInt8)) : wsW (w :: ws) = w.length + 1 + wsW ws := by simp [wsW]
theorem wordsT_wt (ts : List Tok) : wsW (wordsT ts).1 + wt (wordsT ts).2 = wt ts := by
  induction ts with
  | nil => rfl
  | cons t ts ih =>
    cases t with
    | wrd w =>
      show wsW (w :: (wordsT ts).1) + wt (wordsT ts).2 = _
      rw [wsW_cons, wt_cons]
      show _ = w.length + 1 + _
      omega
    | sgn d => exact Nat.zero_add _
theorem join_len (ws : List (List UInt8)) (sep : List UInt8) (h : sep.length ≤ 1) : (Lib.join ws sep).length ≤ wsW ws := by
  unfold Lib.join
  induction ws with
  | nil => exact Nat.zero_le _
  | cons w ws ih =>
    cases ws with
    | nil =>
      rw [wsW_cons]
      simp [List.intercalate]
      omega
    | cons v r =>
      rw [wsW_cons]
      have e : sep.intercalate (w :: v :: r) = w ++ sep ++ sep.intercalate (v :: r) := by simp [List.intercalate]
      rw [e]
      simp only [List.length_append]
      omega
theorem wayL_le : ∀ (n : Nat) (ts : List Tok), (wayL n ts).2.length ≤ ts.length := by
  intro n
  induction n with
  | zero => intro ts; exact Nat.le_refl _
  | succ n ih =>
    intro ts
    have h0 := wordT_len ts
    unfold wayL
    split
    · next t1 e => rw [e] at h0; simp at h0; simp; omega
    · next v t1 e =>
      rw [e] at h0
      simp at h0
      have h1 := takesT_le 44 t1
      have h2 := takesT_le 64 (takesT 44 t1).2
      split
      · next t2 e2 =>
        rw [e2] at h2
        have := ih t2
        simp at h2
        omega
      · next t2 e2 =>
        rw [e2] at h2
        have := takesT_le 58 t2
        simp at h2
        omega
theorem wayT_le (ts : List Tok) : (wayT ts).2.length ≤ ts.length := by
  unfold wayT
  have h := takesT_le 64 ts
  split
  · next t1 e => rw [e] at h; exact h
  · next t1 e => rw [e] at h; exact Nat.le_trans (wayL_le _ _) h
theorem hostT_le (ts : List Tok) : (hostT ts).2.2.length ≤ ts.length := by
  unfold hostT
  have h := takesT_le 64 ts
  split
  · next t1 e => rw [e] at h; exact h
  · next t1 e =>
    rw [e] at h
    have h1 := wordT_len t1
    simp at h
    split
    · next v t2 e2 => rw [e2] at h1; simp at h1; simp; omega
    · next t2 e2 => rw [e2] at h1; simp at h1; simp; omega
theorem boxT_len (ws : List (List UInt8)) (ts : List Tok) : (boxT ws ts).2.2.length + (boxT ws ts).2.1.length ≤ ws.length + ts.length := by
  unfold boxT
  have h := takesT_len 60 ts
  split
  · next t1 e =>
    rw [e] at h
    simp at h
    cases ws with
    | nil => simp; omega
    | cons w ws =>
      have := hostT_le t1
      simp [placeT]
      omega
  · next t1 e =>
    rw [e] at h
    simp at h
    have h1 := wayT_le t1
    split
    · next t2 e2 => rw [e2] at h1; simp at h1; simp; omega
    · next t2 e2 =>
      rw [e2] at h1
      simp at h1
      have h2 := wordsT_len t2
      have h3 := hostT_le (wordsT t2).2
      split
      · next t3 l e3 =>
        simp only [placeT] at e3
        injection e3 with _ e3
        injection e3 with e3 e4
        subst e3 e4
        simp
        omega
      · next t3 l e3 =>
        simp only [placeT] at e3
        injection e3 with _ e3
        injection e3 with e3 e4
        subst e3 e4
        have := takesT_le 62 (hostT (wordsT t2).2).2.2
        simp
        omega
theorem wboxT_len (ts : List Tok) : (wboxT ts).2.2.length + (wboxT ts).2.1.length ≤ ts.length := by
  have h1 := boxT_len (wordsT ts).1 (wordsT ts).2
  have h2 := wordsT_len ts
  unfold wboxT
  omega
/-- An item that takes as many as it tells, if it goes; so many more if it doesn't. -/
def Fair (d : Nat) (item : List Tok → Res) : Prop := ∀ ts, (item ts).2.2.length + (item ts).2.1.length ≤ ts.length + (if (item ts).1 then 0 else d)
theorem itemsT_bad {item : List Tok → Res} {n : Nat} {ts t1 : List Tok} {l : List Adr} (h : item ts = (false, t1, l)) : itemsT item (n + 1) ts = (false, t1, l) := by
  show (match item ts with | (false, t1, l) => (false, t1, l) | (true, t1, l) => _) = _
  rw [h]
theorem itemsT_last {item : List Tok → Res} {n : Nat} {ts t1 t2 : List Tok} {l : List Adr} (h : item ts = (true, t1, l)) (h2 : takesT 44 t1 = (false, t2)) : itemsT item (n + 1) ts = (true, t2, l) := by
  unfold itemsT
  rw [h]
  simp only [h2]
theorem itemsT_more {item : List Tok → Res} {n : Nat} {ts t1 t2 : List Tok} {l : List Adr} (h : item ts = (true, t1, l)) (h2 : takesT 44 t1 = (true, t2)) :
    itemsT item (n + 1) ts = ((itemsT item n t2).1, (itemsT item n t2).2.1, l ++ (itemsT item n t2).2.2) := by
  rw [itemsT]
  rw [h]
  simp only [h2]
theorem itemsT_len {d : Nat} {item : List Tok → Res} (hf : Fair d item) : ∀ n, Fair d (itemsT item n) := by
  intro n
  induction n with
  | zero => intro ts; simp [itemsT]
  | succ n ih =>
    intro ts
    have h := hf ts
    rcases e : item ts with ⟨b, t1, l⟩
    rw [e] at h
    cases b
    · rw [itemsT_bad e]; exact h
    · simp at h
      have h2 := takesT_len 44 t1
      rcases e2 : takesT 44 t1 with ⟨b, t2⟩
      rw [e2] at h2
      cases b
      · rw [itemsT_last e e2]; simp at h2; simp; omega
      · rw [itemsT_more e e2]
        simp at h2
        have := ih t2
        simp only [List.length_append]
        omega
theorem wboxT_fair : Fair 0 wboxT := fun ts => by have := wboxT_len ts; split <;> omega
theorem groupT_len (name : List (List UInt8)) (ts : List Tok) : (groupT name ts).2.2.length + (groupT name ts).2.1.length ≤ ts.length + (if (groupT name ts).1 then 1 else 2) := by
  unfold groupT
  have h := itemsT_len wboxT_fair (ts.length + 1) ts
  split
  · next t1 l e => rw [e] at h; simp at h; simp; omega
  · next t1 l e =>
    rw [e] at h
    simp at h
    have h2 := takesT_len 59 t1
    simp
    split
    · next hb => rw [hb] at h2; simp at h2; omega
    · next hb => simp at hb; rw [hb] at h2; simp at h2; omega
theorem itemT_fair : Fair 1 itemT := fun ts => by
  have h0 := wordsT_len ts
  have h1 := takesT_len 58 (wordsT ts).2
  unfold itemT
  split
  · next t1 e =>
    rw [e] at h1
    simp at h1
    have := groupT_len (wordsT ts).1 t1
    split <;> (split at this <;> first | omega | (simp_all))
  · next t1 e =>
    rw [e] at h1
    simp at h1
    have := boxT_len (wordsT ts).1 t1
    split <;> omega
end Go.Proofs.YtkmgflnmffdhjaaGreatDoor
