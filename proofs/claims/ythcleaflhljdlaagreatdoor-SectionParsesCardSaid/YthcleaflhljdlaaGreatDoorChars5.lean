/- Contracts of Split and the document's Split. -/
import Derived.Test.YthcleaflhljdlaaGreatDoorChars4
namespace Go.Proofs.YthcleaflhljdlaaGreatDoor
open Go Go.RowKit

def strV (l : List UInt8) : Value := .string ⟨l.toArray⟩
theorem strV_extract (s : ByteArray) (a b : Nat) : strV ((s.data.toList.drop a).take (b - a)) = .string (s.extract a b) := by
  unfold strV
  congr 1
  apply bytes_eq
  rw [extract_toList]
theorem strV_bytes (s : ByteArray) : strV s.data.toList = .string s := by
  unfold strV
  congr 1

theorem Tryz.infoStr : (Tryz.prog.info? 9).map (fun i => (i.zero, i.size, i.bytes)) = some (some (.string ⟨#[]⟩), 1, 16) := by kernel_rfl

theorem splitAux_at {c : UInt8} {s : ByteArray} {k f : Nat} (hk : k < s.size) (h : s[k] = c) :
    splitAux c (s.data.toList.drop k) ((s.data.toList.drop f).take (k - f)) = ((s.data.toList.drop f).take (k - f)) :: splitAux c (s.data.toList.drop (k + 1)) ((s.data.toList.drop (k + 1)).take (k + 1 - (k + 1))) := by
  rw [drop_cons s k hk, splitAux, if_pos h]
  simp
theorem take_drop_snoc {s : ByteArray} {k f : Nat} (hk : k < s.size) (hf : f ≤ k) : (s.data.toList.drop f).take (k + 1 - f) = (s.data.toList.drop f).take (k - f) ++ [s[k]] := by
  have h1 : k + 1 - f = (k - f) + 1 := by omega
  rw [h1, List.take_add_one, List.getElem?_drop]
  have h2 : f + (k - f) = k := by omega
  rw [h2, bytes_get s k hk]
  rfl
theorem splitAux_not {c : UInt8} {s : ByteArray} {k f : Nat} (hk : k < s.size) (hf : f ≤ k) (h : ¬ s[k] = c) :
    splitAux c (s.data.toList.drop k) ((s.data.toList.drop f).take (k - f)) = splitAux c (s.data.toList.drop (k + 1)) ((s.data.toList.drop f).take (k + 1 - f)) := by
  rw [drop_cons s k hk, splitAux, if_neg h, take_drop_snoc hk hf]

theorem add_one_byte {s t : ByteArray} {cur : List UInt8} {k : Nat} (hk : k < s.size) (h : t.data.toList = cur) : (t ++ s.extract k (k + 1)).data.toList = cur ++ [s[k]] := by
  rw [ByteArray.data_append, Array.toList_append, h, extract_toList, drop_cons s k hk]
  simp

end Go.Proofs.YthcleaflhljdlaaGreatDoor
