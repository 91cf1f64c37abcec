/- Layer 19: contracts of package envelope: Of. -/
import Derived.Test.YtkmgflnmffdhjaaGreatDoorGbEnE
import Derived.Test.YtkmgflnmffdhjaaGreatDoorGbAdT
import Derived.Test.YtkmgflnmffdhjaaGreatDoorGbTrF
namespace Go.Proofs.YtkmgflnmffdhjaaGreatDoor
open Go Go.RowKit

def nmDate : List UInt8 := [100, 97, 116, 101]
def nmSubject : List UInt8 := [115, 117, 98, 106, 101, 99, 116]
def nmInReply : List UInt8 := [105, 110, 45, 114, 101, 112, 108, 121, 45, 116, 111]
def nmId : List UInt8 := [109, 101, 115, 115, 97, 103, 101, 45, 105, 100]
def hasF (nm : List UInt8) (fs : List Fld) : Bool := decide (fI nm fs < fs.length)
theorem find_b (v : Value) (fs : List Fld) (nm : ByteArray) (w : World) (hv : rowF w v fs) (hs : shortF fs) :
    Calls Tryz.prog 69 #[v, .string nm] w fun e w' => ∃ f, e = .returned (.tuple #[f, .bool (hasF nm.data.toList fs)]) ∧ Below w.heap.size w w' := by
  by_cases h : fI nm.data.toList fs < fs.length
  · exact (find_yes v fs nm _ _ w hv hs rfl h rfl).mono fun e w' ⟨h1, h2⟩ => ⟨_, h1.trans (by unfold hasF; rw [decide_eq_true h]), h2⟩
  · exact (find_no v fs nm w hv hs h).mono fun e w' ⟨h1, h2⟩ => ⟨_, h1.trans (by unfold hasF; rw [decide_eq_false h]), h2⟩
/-- The envelope of some bytes, by these fields. -/
def ofE (l : List UInt8) (fs : List Fld) : Env :=
  ⟨valueS l fs nmDate, valueS l fs nmSubject, adrX (valueS l fs nmFrom), orX (adrX (valueS l fs nmSender)) (adrX (valueS l fs nmFrom)), orX (adrX (valueS l fs nmReplyTo)) (adrX (valueS l fs nmFrom)),
    adrX (valueS l fs nmTo), adrX (valueS l fs nmCc), adrX (valueS l fs nmBcc), valueS l fs nmInReply, valueS l fs nmId, hasF nmDate fs, hasF nmSubject fs, hasF nmInReply fs, hasF nmId fs⟩
def ofPost (l : List UInt8) (fs : List Fld) (w : World) (e : Ending) (w' : World) : Prop :=
  ∃ u0 u1 u2 u3 u4 u5, e = .returned (envV (ofE l fs) u0 u1 u2 u3 u4 u5) ∧ EnvAt w' (ofE l fs) u0 u1 u2 u3 u4 u5 ∧ Below w.heap.size w w'
/-- The rows of four texts and of four signs, while they are filled. -/
structure St4 (X W : World) (T : Nat) (s0 s1 s2 s3 : ByteArray) (h0 h1 h2 h3 : Bool) : Prop where
  hT : T = X.heap.size
  hb : Below X.heap.size X W
  c : W.heap[T]? = some (.cells #[.string s0, .string s1, .string s2, .string s3] 159 (0, 0))
  d : W.heap[T + 1]? = some (.cells #[.bool h0, .bool h1, .bool h2, .bool h3] 127 (0, 0))
theorem St4.below {X W W' : World} {T : Nat} {s0 s1 s2 s3 : ByteArray} {h0 h1 h2 h3 : Bool} (h : St4 X W T s0 s1 s2 s3 h0 h1 h2 h3) (hb : Below W.heap.size W W') : St4 X W' T s0 s1 s2 s3 h0 h1 h2 h3 :=
  ⟨h.hT, h.hb.trans (hb.mono h.hb.size), (hb.block _ (Array.getElem?_eq_some_iff.1 h.c).1).trans h.c, (hb.block _ (Array.getElem?_eq_some_iff.1 h.d).1).trans h.d⟩
theorem St4.set0 {X W : World} {T : Nat} {s0 s1 s2 s3 r : ByteArray} {h0 h1 h2 h3 : Bool} (h : St4 X W T s0 s1 s2 s3 h0 h1 h2 h3) : St4 X (W.setCell ⟨T, 0, none⟩ (.string r)) T r s1 s2 s3 h0 h1 h2 h3 :=
  ⟨h.hT, h.hb.setCell (p := ⟨T, 0, none⟩) (by have := h.hT; simp only; omega) _, by
    have := h.c
    simp [World.setCell, Array.getElem?_modify, this], (setCell_other (by omega)).trans h.d⟩
theorem St4.put0 {X W : World} {T : Nat} {s0 s1 s2 s3 : ByteArray} {h0 h1 h2 h3 b : Bool} (h : St4 X W T s0 s1 s2 s3 h0 h1 h2 h3) : St4 X (W.setCell ⟨T + 1, 0, none⟩ (.bool b)) T s0 s1 s2 s3 b h1 h2 h3 :=
  ⟨h.hT, h.hb.setCell (p := ⟨T + 1, 0, none⟩) (by have := h.hT; simp only; omega) _, (setCell_other (by omega)).trans h.c, by
    have := h.d
    simp [World.setCell, Array.getElem?_modify, this]⟩
theorem St4.set1 {X W : World} {T : Nat} {s0 s1 s2 s3 r : ByteArray} {h0 h1 h2 h3 : Bool} (h : St4 X W T s0 s1 s2 s3 h0 h1 h2 h3) : St4 X (W.setCell ⟨T, 1, none⟩ (.string r)) T s0 r s2 s3 h0 h1 h2 h3 :=
  ⟨h.hT, h.hb.setCell (p := ⟨T, 1, none⟩) (by have := h.hT; simp only; omega) _, by
    have := h.c
    simp [World.setCell, Array.getElem?_modify, this], (setCell_other (by omega)).trans h.d⟩
theorem St4.put1 {X W : World} {T : Nat} {s0 s1 s2 s3 : ByteArray} {h0 h1 h2 h3 b : Bool} (h : St4 X W T s0 s1 s2 s3 h0 h1 h2 h3) : St4 X (W.setCell ⟨T + 1, 1, none⟩ (.bool b)) T s0 s1 s2 s3 h0 b h2 h3 :=
  ⟨h.hT, h.hb.setCell (p := ⟨T + 1, 1, none⟩) (by have := h.hT; simp only; omega) _, (setCell_other (by omega)).trans h.c, by
    have := h.d
    simp [World.setCell, Array.getElem?_modify, this]⟩
theorem St4.set2 {X W : World} {T : Nat} {s0 s1 s2 s3 r : ByteArray} {h0 h1 h2 h3 : Bool} (h : St4 X W T s0 s1 s2 s3 h0 h1 h2 h3) : St4 X (W.setCell ⟨T, 2, none⟩ (.string r)) T s0 s1 r s3 h0 h1 h2 h3 :=
  ⟨h.hT, h.hb.setCell (p := ⟨T, 2, none⟩) (by have := h.hT; simp only; omega) _, by
    have := h.c
    simp [World.setCell, Array.getElem?_modify, this], (setCell_other (by omega)).trans h.d⟩
theorem St4.put2 {X W : World} {T : Nat} {s0 s1 s2 s3 : ByteArray} {h0 h1 h2 h3 b : Bool} (h : St4 X W T s0 s1 s2 s3 h0 h1 h2 h3) : St4 X (W.setCell ⟨T + 1, 2, none⟩ (.bool b)) T s0 s1 s2 s3 h0 h1 b h3 :=
  ⟨h.hT, h.hb.setCell (p := ⟨T + 1, 2, none⟩) (by have := h.hT; simp only; omega) _, (setCell_other (by omega)).trans h.c, by
    have := h.d
    simp [World.setCell, Array.getElem?_modify, this]⟩
theorem St4.set3 {X W : World} {T : Nat} {s0 s1 s2 s3 r : ByteArray} {h0 h1 h2 h3 : Bool} (h : St4 X W T s0 s1 s2 s3 h0 h1 h2 h3) : St4 X (W.setCell ⟨T, 3, none⟩ (.string r)) T s0 s1 s2 r h0 h1 h2 h3 :=
  ⟨h.hT, h.hb.setCell (p := ⟨T, 3, none⟩) (by have := h.hT; simp only; omega) _, by
    have := h.c
    simp [World.setCell, Array.getElem?_modify, this], (setCell_other (by omega)).trans h.d⟩
theorem St4.put3 {X W : World} {T : Nat} {s0 s1 s2 s3 : ByteArray} {h0 h1 h2 h3 b : Bool} (h : St4 X W T s0 s1 s2 s3 h0 h1 h2 h3) : St4 X (W.setCell ⟨T + 1, 3, none⟩ (.bool b)) T s0 s1 s2 s3 h0 h1 h2 b :=
  ⟨h.hT, h.hb.setCell (p := ⟨T + 1, 3, none⟩) (by have := h.hT; simp only; omega) _, (setCell_other (by omega)).trans h.c, by
    have := h.d
    simp [World.setCell, Array.getElem?_modify, this]⟩
theorem St4.cs {X W : World} {T : Nat} {s0 s1 s2 s3 : ByteArray} {h0 h1 h2 h3 : Bool} (h : St4 X W T s0 s1 s2 s3 h0 h1 h2 h3) : W.cell? ⟨T, 0, none⟩ = some (.string s0) ∧ W.cell? ⟨T, 1, none⟩ = some (.string s1) ∧ W.cell? ⟨T, 2, none⟩ = some (.string s2) ∧ W.cell? ⟨T, 3, none⟩ = some (.string s3) ∧ W.cell? ⟨T + 1, 0, none⟩ = some (.bool h0) ∧ W.cell? ⟨T + 1, 1, none⟩ = some (.bool h1) ∧ W.cell? ⟨T + 1, 2, none⟩ = some (.bool h2) ∧ W.cell? ⟨T + 1, 3, none⟩ = some (.bool h3) ∧ W.frozen? ⟨T, 0, none⟩ = false ∧ W.frozen? ⟨T, 1, none⟩ = false ∧ W.frozen? ⟨T, 2, none⟩ = false ∧ W.frozen? ⟨T, 3, none⟩ = false ∧ W.frozen? ⟨T + 1, 0, none⟩ = false ∧ W.frozen? ⟨T + 1, 1, none⟩ = false ∧ W.frozen? ⟨T + 1, 2, none⟩ = false ∧ W.frozen? ⟨T + 1, 3, none⟩ = false := by
  have h1 := h.c
  have h2 := h.d
  simp [World.cell?, World.frozen?, h1, h2]
theorem env_end {W : World} {R : Nat} {z : Array Value} (a0 a1 a2 a3 a4 a5 a6 a7 a8 a9 a10 a11 a12 a13 : Value) (hz : z.size = 14) (h : W.heap[R]? = some (.cells z 129 (0, 0))) :
    ((((((((((((((W.setCell ⟨R, 0, none⟩ a0).setCell ⟨R, 1, none⟩ a1).setCell ⟨R, 2, none⟩ a2).setCell ⟨R, 3, none⟩ a3).setCell ⟨R, 4, none⟩ a4).setCell ⟨R, 5, none⟩ a5).setCell ⟨R, 6, none⟩ a6).setCell ⟨R, 7, none⟩ a7).setCell ⟨R, 8, none⟩ a8).setCell ⟨R, 9, none⟩ a9).setCell ⟨R, 10, none⟩ a10).setCell ⟨R, 11, none⟩ a11).setCell ⟨R, 12, none⟩ a12).setCell ⟨R, 13, none⟩ a13).heap[R]? = some (.cells #[a0, a1, a2, a3, a4, a5, a6, a7, a8, a9, a10, a11, a12, a13] 129 (0, 0)) := by
  obtain ⟨z0, z1, z2, z3, z4, z5, z6, z7, z8, z9, z10, z11, z12, z13, rfl⟩ : ∃ z0 z1 z2 z3 z4 z5 z6 z7 z8 z9 z10 z11 z12 z13, z = #[z0, z1, z2, z3, z4, z5, z6, z7, z8, z9, z10, z11, z12, z13] := by
    obtain ⟨l⟩ := z
    match l, hz with
    | [z0, z1, z2, z3, z4, z5, z6, z7, z8, z9, z10, z11, z12, z13], _ => exact ⟨z0, z1, z2, z3, z4, z5, z6, z7, z8, z9, z10, z11, z12, z13, rfl⟩
  simp [World.setCell, Array.getElem?_modify, h]
theorem env_own {W : World} {R : Nat} (a0 a1 a2 a3 a4 a5 a6 a7 a8 a9 a10 a11 a12 a13 : Value) {b n size : Nat} {ty : TypeId} {v : Value} {xs : List Value} (h : W.ownsRow b ty size v n xs) (hR : R < b) :
    World.ownsRow ((((((((((((((W.setCell ⟨R, 0, none⟩ a0).setCell ⟨R, 1, none⟩ a1).setCell ⟨R, 2, none⟩ a2).setCell ⟨R, 3, none⟩ a3).setCell ⟨R, 4, none⟩ a4).setCell ⟨R, 5, none⟩ a5).setCell ⟨R, 6, none⟩ a6).setCell ⟨R, 7, none⟩ a7).setCell ⟨R, 8, none⟩ a8).setCell ⟨R, 9, none⟩ a9).setCell ⟨R, 10, none⟩ a10).setCell ⟨R, 11, none⟩ a11).setCell ⟨R, 12, none⟩ a12).setCell ⟨R, 13, none⟩ a13) b ty size v n xs := (own_set (own_set (own_set (own_set (own_set (own_set (own_set (own_set (own_set (own_set (own_set (own_set (own_set (own_set h hR) hR) hR) hR) hR) hR) hR) hR) hR) hR) hR) hR) hR) hR)
theorem env_bel {w W : World} {R : Nat} (a0 a1 a2 a3 a4 a5 a6 a7 a8 a9 a10 a11 a12 a13 : Value) {b : Nat} (h : Below b w W) (hR : b ≤ R) : Below b w ((((((((((((((W.setCell ⟨R, 0, none⟩ a0).setCell ⟨R, 1, none⟩ a1).setCell ⟨R, 2, none⟩ a2).setCell ⟨R, 3, none⟩ a3).setCell ⟨R, 4, none⟩ a4).setCell ⟨R, 5, none⟩ a5).setCell ⟨R, 6, none⟩ a6).setCell ⟨R, 7, none⟩ a7).setCell ⟨R, 8, none⟩ a8).setCell ⟨R, 9, none⟩ a9).setCell ⟨R, 10, none⟩ a10).setCell ⟨R, 11, none⟩ a11).setCell ⟨R, 12, none⟩ a12).setCell ⟨R, 13, none⟩ a13) := ((((((((((((((h.setCell (p := ⟨R, 0, none⟩) (by simp only; omega) _).setCell (p := ⟨R, 1, none⟩) (by simp only; omega) _).setCell (p := ⟨R, 2, none⟩) (by simp only; omega) _).setCell (p := ⟨R, 3, none⟩) (by simp only; omega) _).setCell (p := ⟨R, 4, none⟩) (by simp only; omega) _).setCell (p := ⟨R, 5, none⟩) (by simp only; omega) _).setCell (p := ⟨R, 6, none⟩) (by simp only; omega) _).setCell (p := ⟨R, 7, none⟩) (by simp only; omega) _).setCell (p := ⟨R, 8, none⟩) (by simp only; omega) _).setCell (p := ⟨R, 9, none⟩) (by simp only; omega) _).setCell (p := ⟨R, 10, none⟩) (by simp only; omega) _).setCell (p := ⟨R, 11, none⟩) (by simp only; omega) _).setCell (p := ⟨R, 12, none⟩) (by simp only; omega) _).setCell (p := ⟨R, 13, none⟩) (by simp only; omega) _)
set_option maxRecDepth 100000 in
set_option maxHeartbeats 8000000 in
theorem eof_any (v : Value) (l : List UInt8) (f t : Nat) (K q0 q1 q2 q3 : Int) (ka ca : Option Addr) (kn kc cn cc : Nat) (w : World) (hv : bytesArg w v l) (hbig : l.length ≤ 100000) (hft : f ≤ t) (htl : t ≤ l.length) :
    Calls Tryz.prog 61 #[v, .agg #[.int .i64 K, .int .i64 (f : Int), .int .i64 (t : Int), .int .i64 q0, .int .i64 q1, .slice ka kn kc, .slice ca cn cc, .int .i64 q2, .int .i64 q3]] w (ofPost l (fsOf l f t) w) := by
  unfold ofPost
  have HV := Lib.hid hv
  have HOf := Lib.hid (fun W (hb : Below w.heap.size w W) => of_walk v l f t W (HV.out.below hb) hft htl (by omega))
  have hs := fsOf_short l hft htl (by omega)
  have HSh := Lib.hid hs
  unfold OfPost at HOf
  obtain ⟨fs, hfs⟩ : ∃ fs, fs = fsOf l f t := ⟨_, rfl⟩
  rw [show fieldsL l ((linesS l f t).take (eI (linesS l f t))) = fs from hfs.symm] at HOf
  rw [← hfs] at hs HSh ⊢
  obtain ⟨N, hN⟩ : ∃ N : Int, N = ((behindN (linesS l f t) t : Nat) : Int) := ⟨_, rfl⟩
  rw [← hN] at HOf
  have HFn := Lib.hid (fun nm u W (h : rowF W u fs) => find_b u fs nm W h hs)
  have HLs := Lib.hid (fun u W (h : rowF W u fs) (hb : Below w.heap.size w W) => elists_any v u l fs W (HV.out.below hb) (by omega) h hs)
  unfold listsPost at HLs
  have HVa0 := Lib.hid (fun u W (h : rowF W u fs) (hb : Below w.heap.size w W) => value_any v u l fs ⟨#[100, 97, 116, 101]⟩ W (HV.out.below hb) (by omega) h hs)
  obtain ⟨S0, hS0⟩ : ∃ S : ByteArray, S = ⟨(valueS l fs (⟨#[100, 97, 116, 101]⟩ : ByteArray).data.toList).toArray⟩ := ⟨_, rfl⟩
  rw [← hS0] at HVa0
  have HE0 : Hid (S0 = ⟨(valueS l fs nmDate).toArray⟩) := hS0
  have HFn0 := Lib.hid (fun u W h => HFn.out ⟨#[100, 97, 116, 101]⟩ u W h)
  obtain ⟨b0, hb0⟩ : ∃ b, b = hasF (⟨#[100, 97, 116, 101]⟩ : ByteArray).data.toList fs := ⟨_, rfl⟩
  rw [← hb0] at HFn0
  have HG0 : Hid (b0 = hasF nmDate fs) := hb0
  clear hS0 hb0
  have HVa1 := Lib.hid (fun u W (h : rowF W u fs) (hb : Below w.heap.size w W) => value_any v u l fs ⟨#[115, 117, 98, 106, 101, 99, 116]⟩ W (HV.out.below hb) (by omega) h hs)
  obtain ⟨S1, hS1⟩ : ∃ S : ByteArray, S = ⟨(valueS l fs (⟨#[115, 117, 98, 106, 101, 99, 116]⟩ : ByteArray).data.toList).toArray⟩ := ⟨_, rfl⟩
  rw [← hS1] at HVa1
  have HE1 : Hid (S1 = ⟨(valueS l fs nmSubject).toArray⟩) := hS1
  have HFn1 := Lib.hid (fun u W h => HFn.out ⟨#[115, 117, 98, 106, 101, 99, 116]⟩ u W h)
  obtain ⟨b1, hb1⟩ : ∃ b, b = hasF (⟨#[115, 117, 98, 106, 101, 99, 116]⟩ : ByteArray).data.toList fs := ⟨_, rfl⟩
  rw [← hb1] at HFn1
  have HG1 : Hid (b1 = hasF nmSubject fs) := hb1
  clear hS1 hb1
  have HVa2 := Lib.hid (fun u W (h : rowF W u fs) (hb : Below w.heap.size w W) => value_any v u l fs ⟨#[105, 110, 45, 114, 101, 112, 108, 121, 45, 116, 111]⟩ W (HV.out.below hb) (by omega) h hs)
  obtain ⟨S2, hS2⟩ : ∃ S : ByteArray, S = ⟨(valueS l fs (⟨#[105, 110, 45, 114, 101, 112, 108, 121, 45, 116, 111]⟩ : ByteArray).data.toList).toArray⟩ := ⟨_, rfl⟩
  rw [← hS2] at HVa2
  have HE2 : Hid (S2 = ⟨(valueS l fs nmInReply).toArray⟩) := hS2
  have HFn2 := Lib.hid (fun u W h => HFn.out ⟨#[105, 110, 45, 114, 101, 112, 108, 121, 45, 116, 111]⟩ u W h)
  obtain ⟨b2, hb2⟩ : ∃ b, b = hasF (⟨#[105, 110, 45, 114, 101, 112, 108, 121, 45, 116, 111]⟩ : ByteArray).data.toList fs := ⟨_, rfl⟩
  rw [← hb2] at HFn2
  have HG2 : Hid (b2 = hasF nmInReply fs) := hb2
  clear hS2 hb2
  have HVa3 := Lib.hid (fun u W (h : rowF W u fs) (hb : Below w.heap.size w W) => value_any v u l fs ⟨#[109, 101, 115, 115, 97, 103, 101, 45, 105, 100]⟩ W (HV.out.below hb) (by omega) h hs)
  obtain ⟨S3, hS3⟩ : ∃ S : ByteArray, S = ⟨(valueS l fs (⟨#[109, 101, 115, 115, 97, 103, 101, 45, 105, 100]⟩ : ByteArray).data.toList).toArray⟩ := ⟨_, rfl⟩
  rw [← hS3] at HVa3
  have HE3 : Hid (S3 = ⟨(valueS l fs nmId).toArray⟩) := hS3
  have HFn3 := Lib.hid (fun u W h => HFn.out ⟨#[109, 101, 115, 115, 97, 103, 101, 45, 105, 100]⟩ u W h)
  obtain ⟨b3, hb3⟩ : ∃ b, b = hasF (⟨#[109, 101, 115, 115, 97, 103, 101, 45, 105, 100]⟩ : ByteArray).data.toList fs := ⟨_, rfl⟩
  rw [← hb3] at HFn3
  have HG3 : Hid (b3 = hasF nmId fs) := hb3
  clear hS3 hb3
  clear hv hfs hN HFn hs
  obtain ⟨X1, hX1⟩ : ∃ X, X = (w.alloc (.cells #[.int .i64 K, .int .i64 (f : Int), .int .i64 (t : Int), .int .i64 q0, .int .i64 q1, .slice ka kn kc, .slice ca cn cc, .int .i64 q2, .int .i64 q3] 29)).alloc (.cells #[.string ⟨#[]⟩, .string ⟨#[]⟩, .slice none 0 0, .slice none 0 0, .slice none 0 0, .slice none 0 0, .slice none 0 0, .slice none 0 0, .string ⟨#[]⟩, .string ⟨#[]⟩, .bool false, .bool false, .bool false, .bool false] 129) := ⟨_, rfl⟩
  obtain ⟨R, hR⟩ : ∃ R, R = w.heap.size + 1 := ⟨_, rfl⟩
  have HB1 : Hid (Below w.heap.size w X1) := by rw [hX1]; exact ((Below.refl _ _).alloc (Nat.le_refl _) _).alloc (by simp) _
  have HR1 : Hid (X1.heap[R]? = some (.cells #[.string ⟨#[]⟩, .string ⟨#[]⟩, .slice none 0 0, .slice none 0 0, .slice none 0 0, .slice none 0 0, .slice none 0 0, .slice none 0 0, .string ⟨#[]⟩, .string ⟨#[]⟩, .bool false, .bool false, .bool false, .bool false] 129 (0, 0))) := by unfold Hid; rw [hX1, hR]; exact heap_alloc2_new _ _ _
  have hRs : R < X1.heap.size := (Array.getElem?_eq_some_iff.1 HR1.out).1
  have HX1 := Lib.hid hX1
  have HR := Lib.hid hR
  have hRw : w.heap.size ≤ R := by omega
  clear hX1 hR
  go_enter Tryz.func61, Tryz.ntmps61
  go_wp2_with fail
  rw [← HX1.out, ← HR.out]
  with_reducible refine (HOf.out _ HB1.out).mono ?_
  rintro e w2 ⟨u, rfl, ho2, hb2⟩
  have HF2 : Hid (rowF w2 u fs) := rowF_owned ho2
  have HB2 := Lib.hid (HB1.out.trans (hb2.mono HB1.out.size))
  have HR2 := Lib.hid ((hb2.block R hRs).trans HR1.out)
  have hRs2 : R < w2.heap.size := (Array.getElem?_eq_some_iff.1 HR2.out).1
  clear ho2 hb2 HR1 HB1 HX1 HOf
  go_wp2_with fail
  obtain ⟨X, hX⟩ : ∃ X, X = (w2.alloc (.cells #[.string ⟨#[]⟩, .string ⟨#[]⟩, .string ⟨#[]⟩, .string ⟨#[]⟩] 159)).alloc (.cells #[.bool false, .bool false, .bool false, .bool false] 127) := ⟨_, rfl⟩
  obtain ⟨T, hT⟩ : ∃ T, T = w2.heap.size := ⟨_, rfl⟩
  have HS0 : Hid (St4 w2 X T ⟨#[]⟩ ⟨#[]⟩ ⟨#[]⟩ ⟨#[]⟩ false false false false) :=
    ⟨hT, by rw [hX]; exact ((Below.refl _ _).alloc (Nat.le_refl _) _).alloc (by simp) _, by rw [hX, hT]; exact heap_alloc2_old _ _ _, by rw [hX, hT]; exact heap_alloc2_new _ _ _⟩
  rw [← hX, ← hT]
  clear hX
  have HTw := Lib.hid hT
  clear hT
  obtain ⟨ix0, ix1, ix2, ix3⟩ := index_tx4 (.string ⟨#[100, 97, 116, 101]⟩) (.string ⟨#[115, 117, 98, 106, 101, 99, 116]⟩) (.string ⟨#[105, 110, 45, 114, 101, 112, 108, 121, 45, 116, 111]⟩) (.string ⟨#[109, 101, 115, 115, 97, 103, 101, 45, 105, 100]⟩)
  refine wp_loop_rounds 5 ?_
  rw [rounds_succ]
  go_wp2_with fail
  with_reducible refine (HVa0.out u _ (HF2.out.below HS0.out.hb) (HB2.out.trans (HS0.out.hb.mono HB2.out.size))).mono ?_
  rintro e w3 ⟨rfl, hb3⟩
  have HT3 := Lib.hid (HS0.out.below hb3)
  obtain ⟨e0, e1, e2, e3, e4, e5, e6, e7, e8, e9, e10, e11, e12, e13, e14, e15⟩ := HT3.out.cs
  clear hb3 HS0
  go_wp2_with fail
  have HU3 := Lib.hid (HT3.out.set0 (r := S0))
  clear HT3 e0 e1 e2 e3 e4 e5 e6 e7 e8 e9 e10 e11 e12 e13 e14 e15
  obtain ⟨Y, hY⟩ : ∃ Y, Y = w3.setCell ⟨T, 0, none⟩ (.string S0) := ⟨_, rfl⟩
  rw [← hY] at HU3 ⊢
  clear hY
  with_reducible refine (HFn0.out u _ (HF2.out.below HU3.out.hb)).mono ?_
  rintro e w4 ⟨F0, rfl, hb4⟩
  have HT4 := Lib.hid (HU3.out.below hb4)
  obtain ⟨e0, e1, e2, e3, e4, e5, e6, e7, e8, e9, e10, e11, e12, e13, e14, e15⟩ := HT4.out.cs
  clear hb4 HU3
  go_wp2_with fail
  have HS1 := Lib.hid (HT4.out.put0 (b := b0))
  clear HT4 e0 e1 e2 e3 e4 e5 e6 e7 e8 e9 e10 e11 e12 e13 e14 e15
  obtain ⟨Y1, hY⟩ : ∃ Y, Y = w4.setCell ⟨T + 1, 0, none⟩ (.bool b0) := ⟨_, rfl⟩
  rw [← hY] at HS1 ⊢
  clear hY
  rw [rounds_succ]
  go_wp2_with fail
  with_reducible refine (HVa1.out u _ (HF2.out.below HS1.out.hb) (HB2.out.trans (HS1.out.hb.mono HB2.out.size))).mono ?_
  rintro e w3 ⟨rfl, hb3⟩
  have HT3 := Lib.hid (HS1.out.below hb3)
  obtain ⟨e0, e1, e2, e3, e4, e5, e6, e7, e8, e9, e10, e11, e12, e13, e14, e15⟩ := HT3.out.cs
  clear hb3 HS1
  go_wp2_with fail
  have HU3 := Lib.hid (HT3.out.set1 (r := S1))
  clear HT3 e0 e1 e2 e3 e4 e5 e6 e7 e8 e9 e10 e11 e12 e13 e14 e15
  obtain ⟨Y, hY⟩ : ∃ Y, Y = w3.setCell ⟨T, 1, none⟩ (.string S1) := ⟨_, rfl⟩
  rw [← hY] at HU3 ⊢
  clear hY
  with_reducible refine (HFn1.out u _ (HF2.out.below HU3.out.hb)).mono ?_
  rintro e w4 ⟨F1, rfl, hb4⟩
  have HT4 := Lib.hid (HU3.out.below hb4)
  obtain ⟨e0, e1, e2, e3, e4, e5, e6, e7, e8, e9, e10, e11, e12, e13, e14, e15⟩ := HT4.out.cs
  clear hb4 HU3
  go_wp2_with fail
  have HS2 := Lib.hid (HT4.out.put1 (b := b1))
  clear HT4 e0 e1 e2 e3 e4 e5 e6 e7 e8 e9 e10 e11 e12 e13 e14 e15
  obtain ⟨Y2, hY⟩ : ∃ Y, Y = w4.setCell ⟨T + 1, 1, none⟩ (.bool b1) := ⟨_, rfl⟩
  rw [← hY] at HS2 ⊢
  clear hY
  rw [rounds_succ]
  go_wp2_with fail
  with_reducible refine (HVa2.out u _ (HF2.out.below HS2.out.hb) (HB2.out.trans (HS2.out.hb.mono HB2.out.size))).mono ?_
  rintro e w3 ⟨rfl, hb3⟩
  have HT3 := Lib.hid (HS2.out.below hb3)
  obtain ⟨e0, e1, e2, e3, e4, e5, e6, e7, e8, e9, e10, e11, e12, e13, e14, e15⟩ := HT3.out.cs
  clear hb3 HS2
  go_wp2_with fail
  have HU3 := Lib.hid (HT3.out.set2 (r := S2))
  clear HT3 e0 e1 e2 e3 e4 e5 e6 e7 e8 e9 e10 e11 e12 e13 e14 e15
  obtain ⟨Y, hY⟩ : ∃ Y, Y = w3.setCell ⟨T, 2, none⟩ (.string S2) := ⟨_, rfl⟩
  rw [← hY] at HU3 ⊢
  clear hY
  with_reducible refine (HFn2.out u _ (HF2.out.below HU3.out.hb)).mono ?_
  rintro e w4 ⟨F2, rfl, hb4⟩
  have HT4 := Lib.hid (HU3.out.below hb4)
  obtain ⟨e0, e1, e2, e3, e4, e5, e6, e7, e8, e9, e10, e11, e12, e13, e14, e15⟩ := HT4.out.cs
  clear hb4 HU3
  go_wp2_with fail
  have HS3 := Lib.hid (HT4.out.put2 (b := b2))
  clear HT4 e0 e1 e2 e3 e4 e5 e6 e7 e8 e9 e10 e11 e12 e13 e14 e15
  obtain ⟨Y3, hY⟩ : ∃ Y, Y = w4.setCell ⟨T + 1, 2, none⟩ (.bool b2) := ⟨_, rfl⟩
  rw [← hY] at HS3 ⊢
  clear hY
  rw [rounds_succ]
  go_wp2_with fail
  with_reducible refine (HVa3.out u _ (HF2.out.below HS3.out.hb) (HB2.out.trans (HS3.out.hb.mono HB2.out.size))).mono ?_
  rintro e w3 ⟨rfl, hb3⟩
  have HT3 := Lib.hid (HS3.out.below hb3)
  obtain ⟨e0, e1, e2, e3, e4, e5, e6, e7, e8, e9, e10, e11, e12, e13, e14, e15⟩ := HT3.out.cs
  clear hb3 HS3
  go_wp2_with fail
  have HU3 := Lib.hid (HT3.out.set3 (r := S3))
  clear HT3 e0 e1 e2 e3 e4 e5 e6 e7 e8 e9 e10 e11 e12 e13 e14 e15
  obtain ⟨Y, hY⟩ : ∃ Y, Y = w3.setCell ⟨T, 3, none⟩ (.string S3) := ⟨_, rfl⟩
  rw [← hY] at HU3 ⊢
  clear hY
  with_reducible refine (HFn3.out u _ (HF2.out.below HU3.out.hb)).mono ?_
  rintro e w4 ⟨F3, rfl, hb4⟩
  have HT4 := Lib.hid (HU3.out.below hb4)
  obtain ⟨e0, e1, e2, e3, e4, e5, e6, e7, e8, e9, e10, e11, e12, e13, e14, e15⟩ := HT4.out.cs
  clear hb4 HU3
  go_wp2_with fail
  have HS4 := Lib.hid (HT4.out.put3 (b := b3))
  clear HT4 e0 e1 e2 e3 e4 e5 e6 e7 e8 e9 e10 e11 e12 e13 e14 e15
  obtain ⟨Y4, hY⟩ : ∃ Y, Y = w4.setCell ⟨T + 1, 3, none⟩ (.bool b3) := ⟨_, rfl⟩
  rw [← hY] at HS4 ⊢
  clear hY
  rw [rounds_succ]
  go_wp2_with fail
  have hS0 : (fun W' : World => W'.cell? ⟨T, 0, none⟩ = some (.string S0) ∧ W'.cell? ⟨T, 1, none⟩ = some (.string S1) ∧ W'.cell? ⟨T, 2, none⟩ = some (.string S2) ∧ W'.cell? ⟨T, 3, none⟩ = some (.string S3) ∧ W'.cell? ⟨T + 1, 0, none⟩ = some (.bool b0) ∧ W'.cell? ⟨T + 1, 1, none⟩ = some (.bool b1) ∧ W'.cell? ⟨T + 1, 2, none⟩ = some (.bool b2) ∧ W'.cell? ⟨T + 1, 3, none⟩ = some (.bool b3)) Y4.drew := by
    obtain ⟨e0, e1, e2, e3, e4, e5, e6, e7, e8, e9, e10, e11, e12, e13, e14, e15⟩ := (HS4.out.below (Below.refl _ _).drew).cs
    exact ⟨e0, e1, e2, e3, e4, e5, e6, e7⟩
  have HSd := Lib.hid (HS4.out.below (Below.refl _ _).drew)
  have HLc := Lib.hid (HLs.out u Y4.drew (HF2.out.below HSd.out.hb) (HB2.out.trans (HSd.out.hb.mono HB2.out.size)))
  refine wp_region_T (fun W' : World => W'.cell? ⟨T, 0, none⟩ = some (.string S0) ∧ W'.cell? ⟨T, 1, none⟩ = some (.string S1) ∧ W'.cell? ⟨T, 2, none⟩ = some (.string S2) ∧ W'.cell? ⟨T, 3, none⟩ = some (.string S3) ∧ W'.cell? ⟨T + 1, 0, none⟩ = some (.bool b0) ∧ W'.cell? ⟨T + 1, 1, none⟩ = some (.bool b1) ∧ W'.cell? ⟨T + 1, 2, none⟩ = some (.bool b2) ∧ W'.cell? ⟨T + 1, 3, none⟩ = some (.bool b3)) (fun n => decide (n ≤ 12)) (by kernel_rfl) ?_
  refine wpAnyT_takeE (i := 0) rfl (by kernel_rfl) (by kernel_rfl) (by kernel_rfl) (by kernel_rfl) (fun _ _ _ _ h => h) rfl hS0 ?_
  apply Exists.intro
  refine ⟨fun w hSw => ?_, ?_⟩
  · obtain ⟨_, _, _, _, _, _, _, _⟩ := hSw
    go_simp
    try rfl
  try simp only [Act.put]
  try simp only [List.setIfInBounds_toArray]
  try simp only [List.set_cons_succ]
  try simp only [List.set_cons_zero]
  refine wpAnyT_takeE (i := 1) rfl (by kernel_rfl) (by kernel_rfl) (by kernel_rfl) (by kernel_rfl) (fun _ _ _ _ h => h) rfl hS0 ?_
  apply Exists.intro
  refine ⟨fun w hSw => ?_, ?_⟩
  · obtain ⟨_, _, _, _, _, _, _, _⟩ := hSw
    go_simp
    try rfl
  try simp only [Act.put]
  try simp only [List.setIfInBounds_toArray]
  try simp only [List.set_cons_succ]
  try simp only [List.set_cons_zero]
  refine wpAnyT_takeE (i := 2) rfl (by kernel_rfl) (by kernel_rfl) (by kernel_rfl) (by kernel_rfl) (fun _ _ _ _ h => h) rfl hS0 ?_
  apply Exists.intro
  refine ⟨fun w hSw => ?_, ?_⟩
  · obtain ⟨_, _, _, _, _, _, _, _⟩ := hSw
    go_simp
    try rfl
  try simp only [Act.put]
  try simp only [List.setIfInBounds_toArray]
  try simp only [List.set_cons_succ]
  try simp only [List.set_cons_zero]
  refine wpAnyT_takeE (i := 3) rfl (by kernel_rfl) (by kernel_rfl) (by kernel_rfl) (by kernel_rfl) (fun _ _ _ _ h => h) rfl hS0 ?_
  apply Exists.intro
  refine ⟨fun w hSw => ?_, ?_⟩
  · obtain ⟨_, _, _, _, _, _, _, _⟩ := hSw
    go_simp
    try rfl
  try simp only [Act.put]
  try simp only [List.setIfInBounds_toArray]
  try simp only [List.set_cons_succ]
  try simp only [List.set_cons_zero]
  refine wpAnyT_takeE (i := 4) rfl (by kernel_rfl) (by kernel_rfl) (by kernel_rfl) (by kernel_rfl) (fun _ _ _ _ h => h) rfl hS0 ?_
  apply Exists.intro
  refine ⟨fun w hSw => ?_, ?_⟩
  · obtain ⟨_, _, _, _, _, _, _, _⟩ := hSw
    go_simp
    try rfl
  try simp only [Act.put]
  try simp only [List.setIfInBounds_toArray]
  try simp only [List.set_cons_succ]
  try simp only [List.set_cons_zero]
  refine wpAnyT_takeE (i := 5) rfl (by kernel_rfl) (by kernel_rfl) (by kernel_rfl) (by kernel_rfl) (fun _ _ _ _ h => h) rfl hS0 ?_
  apply Exists.intro
  refine ⟨fun w hSw => ?_, ?_⟩
  · obtain ⟨_, _, _, _, _, _, _, _⟩ := hSw
    go_simp
    try rfl
  try simp only [Act.put]
  try simp only [List.setIfInBounds_toArray]
  try simp only [List.set_cons_succ]
  try simp only [List.set_cons_zero]
  refine wpAnyT_takeE (i := 7) rfl (by kernel_rfl) (by kernel_rfl) (by kernel_rfl) (by kernel_rfl) (fun _ _ _ _ h => h) rfl hS0 ?_
  apply Exists.intro
  refine ⟨fun w hSw => ?_, ?_⟩
  · obtain ⟨_, _, _, _, _, _, _, _⟩ := hSw
    go_simp
    try rfl
  try simp only [Act.put]
  try simp only [List.setIfInBounds_toArray]
  try simp only [List.set_cons_succ]
  try simp only [List.set_cons_zero]
  refine wpAnyT_takeE (i := 8) rfl (by kernel_rfl) (by kernel_rfl) (by kernel_rfl) (by kernel_rfl) (fun _ _ _ _ h => h) rfl hS0 ?_
  apply Exists.intro
  refine ⟨fun w hSw => ?_, ?_⟩
  · obtain ⟨_, _, _, _, _, _, _, _⟩ := hSw
    go_simp
    try rfl
  try simp only [Act.put]
  try simp only [List.setIfInBounds_toArray]
  try simp only [List.set_cons_succ]
  try simp only [List.set_cons_zero]
  refine wpAnyT_takeE (i := 9) rfl (by kernel_rfl) (by kernel_rfl) (by kernel_rfl) (by kernel_rfl) (fun _ _ _ _ h => h) rfl hS0 ?_
  apply Exists.intro
  refine ⟨fun w hSw => ?_, ?_⟩
  · obtain ⟨_, _, _, _, _, _, _, _⟩ := hSw
    go_simp
    try rfl
  try simp only [Act.put]
  try simp only [List.setIfInBounds_toArray]
  try simp only [List.set_cons_succ]
  try simp only [List.set_cons_zero]
  refine wpAnyT_takeE (i := 10) rfl (by kernel_rfl) (by kernel_rfl) (by kernel_rfl) (by kernel_rfl) (fun _ _ _ _ h => h) rfl hS0 ?_
  apply Exists.intro
  refine ⟨fun w hSw => ?_, ?_⟩
  · obtain ⟨_, _, _, _, _, _, _, _⟩ := hSw
    go_simp
    try rfl
  try simp only [Act.put]
  try simp only [List.setIfInBounds_toArray]
  try simp only [List.set_cons_succ]
  try simp only [List.set_cons_zero]
  refine wpAnyT_takeE (i := 11) rfl (by kernel_rfl) (by kernel_rfl) (by kernel_rfl) (by kernel_rfl) (fun _ _ _ _ h => h) rfl hS0 ?_
  apply Exists.intro
  refine ⟨fun w hSw => ?_, ?_⟩
  · obtain ⟨_, _, _, _, _, _, _, _⟩ := hSw
    go_simp
    try rfl
  try simp only [Act.put]
  try simp only [List.setIfInBounds_toArray]
  try simp only [List.set_cons_succ]
  try simp only [List.set_cons_zero]
  refine wpAnyT_one (i := 6) (by kernel_rfl) rfl (fun K hK => ?_)
  go_simp
  with_reducible refine HLc.out.mono ?_
  rintro e w6 ⟨u0, u1, u2, u3, u4, u5, rfl, o0, o1, o2, o3, o4, o5, hb6⟩
  obtain ⟨a0, n0, c0, rfl⟩ := own_slice o0
  obtain ⟨a1, n1, c1, rfl⟩ := own_slice o1
  obtain ⟨a2, n2, c2, rfl⟩ := own_slice o2
  obtain ⟨a3, n3, c3, rfl⟩ := own_slice o3
  obtain ⟨a4, n4, c4, rfl⟩ := own_slice o4
  obtain ⟨a5, n5, c5, rfl⟩ := own_slice o5
  have HS6 := Lib.hid (HSd.out.below hb6)
  have hS1 : (fun W' : World => W'.cell? ⟨T, 0, none⟩ = some (.string S0) ∧ W'.cell? ⟨T, 1, none⟩ = some (.string S1) ∧ W'.cell? ⟨T, 2, none⟩ = some (.string S2) ∧ W'.cell? ⟨T, 3, none⟩ = some (.string S3) ∧ W'.cell? ⟨T + 1, 0, none⟩ = some (.bool b0) ∧ W'.cell? ⟨T + 1, 1, none⟩ = some (.bool b1) ∧ W'.cell? ⟨T + 1, 2, none⟩ = some (.bool b2) ∧ W'.cell? ⟨T + 1, 3, none⟩ = some (.bool b3)) w6 := by
    obtain ⟨e0, e1, e2, e3, e4, e5, e6, e7, e8, e9, e10, e11, e12, e13, e14, e15⟩ := HS6.out.cs
    exact ⟨e0, e1, e2, e3, e4, e5, e6, e7⟩
  refine hK.out _ _ (fun _ => hS1) ?_
  clear hK K
  refine wpAnyT_one (i := 12) (by kernel_rfl) rfl (fun K hK => ?_)
  go_simp
  refine hK.out _ _ (fun _ => hS1) ?_
  clear hK K
  refine wpAnyT_rest _ _ _ _ (by kernel_rfl) ?_
  have HR6 := Lib.hid ((HS6.out.hb.block R hRs2).trans HR2.out)
  have dr := HR6.out
  have x0 : w6.cell? ⟨R, 0, none⟩ = some (.string ⟨#[]⟩) := by simp [World.cell?, dr]
  have f0 : w6.frozen? ⟨R, 0, none⟩ = false := by simp [World.frozen?, dr]
  have x1 : w6.cell? ⟨R, 1, none⟩ = some (.string ⟨#[]⟩) := by simp [World.cell?, dr]
  have f1 : w6.frozen? ⟨R, 1, none⟩ = false := by simp [World.frozen?, dr]
  have x2 : w6.cell? ⟨R, 2, none⟩ = some (.slice none 0 0) := by simp [World.cell?, dr]
  have f2 : w6.frozen? ⟨R, 2, none⟩ = false := by simp [World.frozen?, dr]
  have x3 : w6.cell? ⟨R, 3, none⟩ = some (.slice none 0 0) := by simp [World.cell?, dr]
  have f3 : w6.frozen? ⟨R, 3, none⟩ = false := by simp [World.frozen?, dr]
  have x4 : w6.cell? ⟨R, 4, none⟩ = some (.slice none 0 0) := by simp [World.cell?, dr]
  have f4 : w6.frozen? ⟨R, 4, none⟩ = false := by simp [World.frozen?, dr]
  have x5 : w6.cell? ⟨R, 5, none⟩ = some (.slice none 0 0) := by simp [World.cell?, dr]
  have f5 : w6.frozen? ⟨R, 5, none⟩ = false := by simp [World.frozen?, dr]
  have x6 : w6.cell? ⟨R, 6, none⟩ = some (.slice none 0 0) := by simp [World.cell?, dr]
  have f6 : w6.frozen? ⟨R, 6, none⟩ = false := by simp [World.frozen?, dr]
  have x7 : w6.cell? ⟨R, 7, none⟩ = some (.slice none 0 0) := by simp [World.cell?, dr]
  have f7 : w6.frozen? ⟨R, 7, none⟩ = false := by simp [World.frozen?, dr]
  have x8 : w6.cell? ⟨R, 8, none⟩ = some (.string ⟨#[]⟩) := by simp [World.cell?, dr]
  have f8 : w6.frozen? ⟨R, 8, none⟩ = false := by simp [World.frozen?, dr]
  have x9 : w6.cell? ⟨R, 9, none⟩ = some (.string ⟨#[]⟩) := by simp [World.cell?, dr]
  have f9 : w6.frozen? ⟨R, 9, none⟩ = false := by simp [World.frozen?, dr]
  have x10 : w6.cell? ⟨R, 10, none⟩ = some (.bool false) := by simp [World.cell?, dr]
  have f10 : w6.frozen? ⟨R, 10, none⟩ = false := by simp [World.frozen?, dr]
  have x11 : w6.cell? ⟨R, 11, none⟩ = some (.bool false) := by simp [World.cell?, dr]
  have f11 : w6.frozen? ⟨R, 11, none⟩ = false := by simp [World.frozen?, dr]
  have x12 : w6.cell? ⟨R, 12, none⟩ = some (.bool false) := by simp [World.cell?, dr]
  have f12 : w6.frozen? ⟨R, 12, none⟩ = false := by simp [World.frozen?, dr]
  have x13 : w6.cell? ⟨R, 13, none⟩ = some (.bool false) := by simp [World.cell?, dr]
  have f13 : w6.frozen? ⟨R, 13, none⟩ = false := by simp [World.frozen?, dr]
  clear dr hS0 hS1
  have HO := Lib.hid (And.intro o0 (And.intro o1 (And.intro o2 (And.intro o3 (And.intro o4 o5)))))
  have HB6 := Lib.hid (HB2.out.trans (HS6.out.hb.mono HB2.out.size))
  clear o0 o1 o2 o3 o4 o5 hb6
  refine wpAny_one (i := 13) (by kernel_rfl) rfl (fun K hK => ?_)
  go_simp
  refine hK.out _ _ ?_
  clear hK K
  refine wpAny_done (by kernel_rfl) ?_ _
  clear x0 f0 x1 f1 x2 f2 x3 f3 x4 f4 x5 f5 x6 f6 x7 f7 x8 f8 x9 f9 x10 f10 x11 f11 x12 f12 x13 f13
  go_wp2_with fail
  refine bodyPost_ret (results_cell_row (P := Tryz.prog) Tryz.results61 _ _ R 129 _ (0, 0) _ rfl (env_end (.string S0) (.string S1) (.slice a0 n0 c0) (.slice a1 n1 c1) (.slice a2 n2 c2) (.slice a3 n3 c3) (.slice a4 n4 c4) (.slice a5 n5 c5) (.string S2) (.string S3) (.bool b0) (.bool b1) (.bool b2) (.bool b3) rfl HR6.out) Tryz.underlying129 rfl (by kernel_rfl)) rfl ?_
  obtain ⟨o0, o1, o2, o3, o4, o5⟩ := HO.out
  refine ⟨_, _, _, _, _, _, ?_, ⟨rowAdx_ownedX (env_own (.string S0) (.string S1) (.slice a0 n0 c0) (.slice a1 n1 c1) (.slice a2 n2 c2) (.slice a3 n3 c3) (.slice a4 n4 c4) (.slice a5 n5 c5) (.string S2) (.string S3) (.bool b0) (.bool b1) (.bool b2) (.bool b3) o0 (by show R < Y4.heap.size; have := HS4.out.hb.size; omega)), rowAdx_ownedX (env_own (.string S0) (.string S1) (.slice a0 n0 c0) (.slice a1 n1 c1) (.slice a2 n2 c2) (.slice a3 n3 c3) (.slice a4 n4 c4) (.slice a5 n5 c5) (.string S2) (.string S3) (.bool b0) (.bool b1) (.bool b2) (.bool b3) o1 (by show R < Y4.heap.size; have := HS4.out.hb.size; omega)), rowAdx_ownedX (env_own (.string S0) (.string S1) (.slice a0 n0 c0) (.slice a1 n1 c1) (.slice a2 n2 c2) (.slice a3 n3 c3) (.slice a4 n4 c4) (.slice a5 n5 c5) (.string S2) (.string S3) (.bool b0) (.bool b1) (.bool b2) (.bool b3) o2 (by show R < Y4.heap.size; have := HS4.out.hb.size; omega)), rowAdx_ownedX (env_own (.string S0) (.string S1) (.slice a0 n0 c0) (.slice a1 n1 c1) (.slice a2 n2 c2) (.slice a3 n3 c3) (.slice a4 n4 c4) (.slice a5 n5 c5) (.string S2) (.string S3) (.bool b0) (.bool b1) (.bool b2) (.bool b3) o3 (by show R < Y4.heap.size; have := HS4.out.hb.size; omega)), rowAdx_ownedX (env_own (.string S0) (.string S1) (.slice a0 n0 c0) (.slice a1 n1 c1) (.slice a2 n2 c2) (.slice a3 n3 c3) (.slice a4 n4 c4) (.slice a5 n5 c5) (.string S2) (.string S3) (.bool b0) (.bool b1) (.bool b2) (.bool b3) o4 (by show R < Y4.heap.size; have := HS4.out.hb.size; omega)), rowAdx_ownedX (env_own (.string S0) (.string S1) (.slice a0 n0 c0) (.slice a1 n1 c1) (.slice a2 n2 c2) (.slice a3 n3 c3) (.slice a4 n4 c4) (.slice a5 n5 c5) (.string S2) (.string S3) (.bool b0) (.bool b1) (.bool b2) (.bool b3) o5 (by show R < Y4.heap.size; have := HS4.out.hb.size; omega))⟩, env_bel (.string S0) (.string S1) (.slice a0 n0 c0) (.slice a1 n1 c1) (.slice a2 n2 c2) (.slice a3 n3 c3) (.slice a4 n4 c4) (.slice a5 n5 c5) (.string S2) (.string S3) (.bool b0) (.bool b1) (.bool b2) (.bool b3) HB6.out hRw⟩
  unfold envV ofE
  simp only
  rw [← HE0.out, ← HE1.out, ← HE2.out, ← HE3.out, ← HG0.out, ← HG1.out, ← HG2.out, ← HG3.out]
end Go.Proofs.YtkmgflnmffdhjaaGreatDoor
