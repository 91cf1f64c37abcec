/- Contracts of Token and Atom, and of the document's; the example that every statement asks first. -/
import Derived.Test.YtjlcphofkepajaaGreatChars5
namespace Go.Proofs.YtjlcphofkepajaaGreat
open Go Go.RowKit

def mimeB : ByteArray := ⟨#[40, 41, 60, 62, 64, 44, 59, 58, 92, 34, 47, 91, 93, 63, 61]⟩
def imapB : ByteArray := ⟨#[40, 41, 123, 37, 42, 34, 92, 93]⟩
def tokenI (c : Int) : Bool := decide (33 ≤ c ∧ c ≤ 126) && !(hasI mimeB c)
def atomI (c : Int) : Bool := decide (33 ≤ c ∧ c ≤ 126) && !(hasI imapB c)
theorem mime_low : ∀ k, (h : k < mimeB.size) → mimeB[k].toNat < 128 := by decide
theorem imap_low : ∀ k, (h : k < imapB.size) → imapB[k].toNat < 128 := by decide

end Go.Proofs.YtjlcphofkepajaaGreat
